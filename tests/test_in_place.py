"""Point 40: calls put in place."""

import unittest

from making import TICK, MadeCase, drawn, drawn_once, full_middle
from papering import RightMaker
from promises import calls_left, second_once, second_slight, second_small, slight_together

from samepaper.in_place import in_place
from samepaper.once import once


def calls_of(function):
    return [end[1] for params, rows, end in function[2] if end[0] == "call"]


SQUARE = ("sq", "n", ((("n0",), (("n1", "mul", ("n0", "n0")),), ("give", ("n1",))),))


class PlaceCase(MadeCase):
    def placed(self, middle, *values, bounds=(0, 1, 2, 3, 5, 12)):
        """The outcome of a right middle, asked for all that is promised of it; values are those of function 0."""
        small = second_small(middle)
        outcome, paper = self.made(in_place, middle, come_to=False, once=second_once(middle), small=small)
        self.assertEqual(len(outcome), len(middle))
        for number in range(len(middle)):
            if slight_together(middle, number):
                self.assertEqual(calls_left(middle, outcome, number), [])
        for told in values:
            for bound in bounds:
                self.assert_alike(middle[:1] + middle[1:], outcome, lambda number: told if number == 0 else self.some(middle, number),
                                  (bound,))
        return outcome

    def some(self, middle, number):
        return tuple(2 if name[0] == "n" else (3, 4) for name in middle[number][2][0][0])


class InPlaceTest(PlaceCase):
    def test_a_function_that_calls_nobody_stays(self):
        middle = (SQUARE,)
        self.assertEqual(in_place(middle)[0], middle)
        self.placed(middle, (3,))

    def test_one_call(self):
        middle = (("f", "n", (
            (("n0",), (("n1", "add", ("n0", 1)),), ("call", 1, ("n1",), 1, ())),
            (("n2",), (("n3", "sub", ("n2", "n0")),), ("give", ("n3",))))), SQUARE)
        outcome = self.placed(middle, (3,), (-1,))
        self.assertEqual(outcome[1], SQUARE)
        self.assertEqual(len(outcome[0][2]), 3)
        # What the call takes, the outcome takes: a tick.
        self.assertEqual(sum(rows.count(TICK) for params, rows, end in outcome[0][2]), 1)

    def test_calls_of_those_that_call(self):
        """Of a chain of calls the last one alone calls a function that calls nobody."""
        def calls(word, callee):
            return (word, "n", ((("n0",), (), ("call", callee, ("n0",), 1, ())), (("n1",), (), ("give", ("n1",)))))
        middle = (calls("f", 1), calls("g", 2), calls("h", 3), SQUARE)
        outcome = self.placed(middle, (3,))
        self.assertEqual([calls_of(function) for function in outcome], [[1], [2], [], []])
        again = self.placed(outcome, (3,))
        self.assertEqual([calls_of(function) for function in again], [[1], [], [], []])

    def test_calls_of_itself_and_of_one_another(self):
        middle = (
            ("f", "n", (
                (("n0",), (), ("fork", "n0", 1, (), 2, ())),
                ((), (("n1", "sub", ("n0", 1)),), ("call", 0, ("n1",), 3, ("n0",))),
                ((), (), ("call", 1, ("n0",), 4, ())),
                (("n2", "n3"), (("n4", "add", ("n2", "n3")),), ("call", 2, ("n4",), 4, ())),
                (("n5",), (), ("give", ("n5",))))),
            ("g", "n", ((("n0",), (), ("fork", "n0", 1, (), 2, ())), ((), (("n1", "div", ("n0", 2)),), ("call", 0, ("n1",), 3, ())),
                        ((), (), ("give", ("n0",))), (("n2",), (), ("give", ("n2",))))),
            SQUARE)
        outcome = self.placed(middle, (0,), (1,), (3,), bounds=range(9))
        self.assertEqual([calls_of(function) for function in outcome], [[0, 1], [0], []])

    def test_blocks_that_are_not_come_to(self):
        """An end "call" there makes a function one that calls; such an end in a function is gone, or put in place."""
        lost = ((("n0",), (), ("give", ("n0",))), ((), (), ("call", 1, (1,), 2, ())), (("n1",), (), ("give", ("n1",))))
        middle = (("f", "n", ((("n0",), (), ("call", 2, ("n0",), 1, ())), (("n1",), (), ("give", ("n1",))))), SQUARE, ("g", "n", lost))
        outcome = self.placed(middle, (3,))
        self.assertEqual(calls_of(outcome[0]), [2])
        self.assertEqual(calls_of(outcome[2]), [])
        # Within a function that is called, too.
        idle = ((("n0",), (), ("give", ("n0",))), ((), (("n1", "copy", ("n9",)),), ("give", (1,))))
        outcome = self.placed((*middle[:2], ("g", "n", idle)), (3,))
        self.assertEqual(calls_of(outcome[0]), [])

    def test_behind_ways_of_forks(self):
        signs = ("sign", "n", ((("n0",), (("n1", "less", ("n0", 0)),), ("fork", "n1", 1, (-1,), 2, ())), (("n2",), (), ("give", ("n2",))),
                               ((), (("n3", "same", ("n0", 0)),), ("fork", "n3", 3, (), 1, (1,))), ((), (), ("give", (0,)))))
        middle = (("f", "n", (
            (("n0", "n1"), (), ("fork", "n0", 1, (), 2, ())),
            ((), (), ("call", 1, ("n1",), 3, ())),
            ((), (("n5", "add", ("n1", 1)),), ("call", 1, ("n5",), 3, ())),
            (("n2",), (("n3", "mul", ("n2", "n1")),), ("give", ("n3",))))), signs)
        for first in (0, 1):
            for second in (-2, -1, 0, 1):
                self.placed(middle, (first, second))

    def test_in_loops(self):
        inner = ("sum", "n", ((("n0",), (), ("go", 1, (0, "n0"))), (("n1", "n2"), (TICK,), ("fork", "n2", 2, (), 3, ())),
                              ((), (("n3", "add", ("n1", "n2")), ("n4", "sub", ("n2", 1))), ("go", 1, ("n3", "n4"))), ((), (), ("give", ("n1",)))))
        middle = (("f", "n", (
            (("n0",), (), ("go", 1, ("n0", 0))),
            (("n1", "n2"), (TICK,), ("fork", "n1", 2, (), 4, ())),
            ((), (("n3", "sub", ("n1", 1)),), ("call", 1, ("n1",), 3, ("n2",))),
            (("n4", "n5"), (("n6", "add", ("n4", "n5")),), ("go", 1, ("n3", "n6"))),
            ((), (), ("give", ("n2",))))), inner)
        self.placed(middle, (0,), (1,), (3,), bounds=range(20))

    def test_a_call_that_waits_at_its_own_block(self):
        middle = (("f", "n", (
            (("n0",), (), ("go", 1, ("n0", 5))),
            (("n1", "n2"), (("n3", "sub", ("n2", 1)),), ("fork", "n3", 2, (), 3, ())),
            ((), (), ("call", 1, ("n1",), 1, ("n3",))),
            ((), (), ("give", ("n1",))))), SQUARE)
        self.placed(middle, (2,), (-1,), bounds=range(7))

    def test_later_params(self):
        """Those of the waiting block: numbers, names that live on, one name twice, names laid crosswise, names not read."""
        pair = ("pair", "nn", ((("n0",), (("n1", "add", ("n0", 1)), TICK), ("give", ("n1", "n0"))),))
        read = tuple((f"n{40 + k}", "sub", (f"n{30 + k}", f"n{40 + k - 1}")) for k in range(1, 7))
        for more in (("n0",) * 5, (1, 2, 3, 4, 5), ("n0", "n1", "n2", "n3", 9), ("n34", "n33", "n32", "n31", "n30"),
                     ("n30", "n31", "n32", "n33", "n34"), ("n31", "n30", "n0", 4, "n33"), ("n36", "n35", "n36", "n36", "n35")):
            for lives in ((), (("n50", "add", ("n0", "n3")),)):
                first = tuple((f"n{30 + k}", "add", ("n0", k)) for k in range(7))
                waits = ("n35", "n36", "n30", "n31", "n32", "n33", "n34")
                middle = (("f", "n", (
                    (("n0", "n1", "n2", "n3"), first, ("fork", "n1", 1, (), 2, ())),
                    ((), (), ("call", 1, ("n31",), 3, more)),
                    ((), (), ("go", 3, (1, 2, 3, 4, 5, 6, 7))),
                    (waits, (("n40", "copy", (0,)),) + read[:4] + lives, ("give", ("n44",))))), pair)
                self.placed(middle, (7, 1, 2, 3), (7, 0, 2, 3))

    def test_names_given_again(self):
        middle = (("f", "n", (
            (("n0",), (("n1", "copy", (1,)), ("n0", "add", ("n0", "n1"))), ("call", 1, ("n0",), 1, ("n1", "n0"))),
            (("n0", "n3", "n1"), (("n3", "add", ("n3", "n0")), ("n0", "add", ("n1", "n3"))), ("call", 1, ("n0",), 2, ("n3",))),
            (("n1", "n0"), (("n0", "sub", ("n0", "n1")),), ("give", ("n0",))))), SQUARE)
        self.placed(middle, (3,), (-2,))

    def test_rows_and_results_of_all_kinds(self):
        split = ("split", "rnr", ((("r0", "n0"), (("r1", "put", ("r0", 0, "n0")), ("n1", "size", ("r1",))), ("give", ("r1", "n1", "r0"))),))
        middle = (("f", "r", (
            (("r0", "n0"), (), ("call", 1, ("r0", "n0"), 1, ("r0", "n0"))),
            (("r1", "n1", "r2", "r3", "n2"), (("n3", "at", ("r1", 0)), ("n4", "at", ("r2", 0)), ("r4", "make", ("n1", "n2", "n3", "n4"))),
             ("call", 2, (), 2, ())),
            ((), (), ("give", ("r4",))))), split, ("none", "", (((), (TICK,), ("give", ())),)))
        self.placed(middle, ((5, 6), 1), ((), 1))

    def test_functions_that_never_give(self):
        """Behind such a call nothing is come to any more."""
        for end in (("go", 1, ()), ("fork", 0, 1, (), 1, ())):
            ever = ("ever", "n", (((), (), ("go", 1, ())), ((), (TICK,), end)))
            middle = (("f", "n", ((("n0",), (), ("fork", "n0", 1, (), 2, ())), ((), (), ("call", 1, (), 3, ("n0",))), ((), (), ("give", ("n0",))),
                                  (("n1", "n2"), (("n3", "add", ("n1", "n2")),), ("give", ("n3",))))), ever)
            outcome = self.placed(middle, (0,), (1,))
            self.assertEqual(calls_of(outcome[0]), [])
        bad = ("bad", "n", (((), (("need", "never", 0),), ("give", (1,))),))
        self.placed((middle[0], bad), (0,), (1,))

    def test_many_names_live_on(self):
        """A slight function of 55 parameters that all live on through the call of one with five names."""
        names = tuple(f"n{k}" for k in range(55))
        five = ("five", "n", ((("n0",), tuple((f"n{k}", "mul", ("n0", k)) for k in range(1, 5)), ("give", ("n4",))),))
        last = tuple(("need", "bad", name) for name in names[:29])
        middle = (("f", "n", ((names, (), ("call", 1, ("n3",), 1, names[1:])), (names, last, ("go", 2, ())),
                              ((), tuple(("need", "worse", name) for name in names[29:]), ("give", ("n54",))))), five)
        self.assertTrue(slight_together(middle, 0))
        outcome = self.placed(middle, tuple(range(1, 56)), tuple(range(55)), tuple(range(1, 55)) + (0,))
        self.assertEqual(calls_of(outcome[0]), [])
        # With one name more they are not slight together.
        six = ("six", "n", ((("n0",), tuple((f"n{k}", "mul", ("n0", k)) for k in range(1, 6)), ("give", ("n4",))),))
        self.assertFalse(slight_together((middle[0], six), 0))
        self.placed((middle[0], six), tuple(range(1, 56)))

    def test_blocks_added_up(self):
        for many, left in ((1, 10), (2, 5), (5, 1)):
            inner = tuple(((("n0",) if b == 0 else ()), (), ("go", b + 1, ()) if b + 1 < many else ("give", ("n0",))) for b in range(many))
            blocks = [(("n0",), (), ("call", 1, ("n0",), 1, ()))] + [((f"n{b}",), (), ("call", 1, (f"n{b}",), b + 1, ())) for b in range(1, left)]
            middle = (("f", "n", (*blocks, ((f"n{left}",), (), ("give", (f"n{left}",))))), ("g", "n", inner))
            for number in range(12):
                self.placed(middle, (number,), bounds=(left - 1, left))

    def test_too_large(self):
        """What would not be small is not put in place; what is not small stays right."""
        wide = tuple(f"n{k}" for k in range(40))
        keeps = ("keeps", "n", ((wide, (), ("go", 1, ())), ((), tuple(("need", "bad", name) for name in wide), ("give", ("n0",)))))
        last = tuple(("need", "bad", name) for name in wide)
        middle = (("f", "n", ((wide, (), ("call", 1, wide, 1, ())), (("n70",), last, ("give", ("n70",))))), keeps)
        self.assertTrue(second_small(middle))
        outcome = self.placed(middle, tuple(range(1, 41)), tuple(range(40)))
        self.assertEqual(calls_of(outcome[0]), [1])
        # Of the calls of another function some have room.
        blocks = [(("n0",), (), ("go", 1, ("n0",)))]
        ten = ("ten", "n", tuple((("n0",) if b == 0 else (), (), ("go", b + 1, ())) for b in range(9)) + (((), (), ("give", ("n0",))),))
        for b in range(1, 9):
            blocks.append(((f"n{b}",), (), ("call", 1, (f"n{b}",), b + 1, ())))
        middle = (("f", "n", (*blocks, (("n9",), (), ("give", ("n9",))))), ten)
        outcome = self.placed(middle, (3,), bounds=range(10))
        self.assertEqual(len(calls_of(outcome[0])), 5)

    def test_middles_that_are_not_small(self):
        for seed in range(12):
            maker = RightMaker(seed, functions=3, blocks=60, rows=4, names=30)
            middle = maker.middle()
            self.placed(middle, maker.values(middle, 0))
        rows = (TICK,) * 1200
        long = (("f", "n", ((("n0",), rows, ("call", 1, ("n0",), 1, ())), (("n1",), (), ("give", ("n1",))))), SQUARE)
        self.placed(long, (3,), bounds=(1199, 1200, 1201))
        blocks = tuple(((), (), ("go", b + 1, ())) for b in range(598))
        many = (("f", "n", (*blocks, ((), (), ("call", 1, (2,), 599, ())), (("n1",), (), ("give", ("n1",))))), SQUARE)
        self.placed(many, (), bounds=(0, 1))
        # A slight function next to one that is not small.
        slight = ("h", "n", ((("n0",), (), ("call", 1, ("n0",), 1, ())), (("n1",), (), ("give", ("n1",)))))
        outcome = self.placed((*many, slight), ())
        self.assertEqual(calls_of(outcome[2]), [])

    def test_told_counts(self):
        values = tuple(range(58)) + ((1, 2), (3,))
        middle = full_middle() + (SQUARE,)
        self.placed(middle, values, bounds=(0, 7))
        self.placed(once(middle)[0], values, bounds=(0, 7))


class DrawnTest(PlaceCase):
    def test_by_chance(self):
        fewer = 0
        for seed in range(250):
            maker, middle = drawn(seed, names=3 + seed % 7) if seed % 2 else drawn_once(seed)
            outcome = self.placed(middle)
            self.assert_alike(middle, outcome, lambda number: maker.values(middle, number), (0, 1, 2, 3, 4, 7, 12))
            fewer += sum(len(calls_of(function)) for function in outcome) < sum(len(calls_of(function)) for function in middle)
            if seed % 5 == 0:
                again = self.placed(outcome)
                self.assert_alike(middle, again, lambda number: maker.values(middle, number))
        self.assertGreater(fewer, 60)

    def test_many_calls(self):
        """Functions in which calls are many, and all of those called call nobody."""
        left = 0
        for seed in range(80):
            maker, callee = drawn(4 * seed + 1, functions=1, blocks=4, rows=3, names=3, plain=0.2)
            callee = callee[0]
            blocks = tuple((params, rows, end if end[0] != "call" else ("give", self.gives(callee, params)))
                           for params, rows, end in callee[2])
            callee = ("g", callee[1], blocks)
            middle = (self.calling(maker, callee), callee)
            outcome = self.placed(middle)
            self.assert_alike(middle, outcome, lambda number: maker.values(middle, number), range(6))
            left += len(calls_of(outcome[0])) == 0
        self.assertGreater(left, 30)

    def gives(self, callee, params):
        """What may be given anywhere."""
        return tuple(1 if kind == "n" else "r9" for kind in callee[1])

    def calling(self, maker, callee):
        """A function of three calls, one behind a way of a fork and one in a loop."""
        kinds = [name[0] for name in callee[2][0][0]]
        results = [f"{kind}{50 + k}" for k, kind in enumerate(callee[1])]
        pick = lambda names: maker.chance.choice(names)
        args = lambda: tuple(pick(["n0", "n1", 3]) if kind == "n" else "r0" for kind in kinds)
        more = lambda: (pick(["n0", "n1", 0]), pick(["n0", "n1", 0]))
        return ("f", "nr", (
            (("n0", "n1", "r0"), (), ("fork", "n0", 1, (), 2, ("n1",))),
            ((), (), ("call", 1, args(), 3, more())),
            (("n2",), (TICK,), ("fork", "n2", 4, (), 5, ())),
            ((*results, "n3", "n4"), (("n5", "add", ("n3", "n4")),), ("go", 2, (pick(["n3", "n5", 0]),))),
            ((), (("n6", "sub", ("n2", 1)),), ("call", 1, args(), 6, ("n6", "n2"))),
            ((), (), ("give", ("n1", "r0"))),
            ((*[f"{name}0" for name in results], "n7", "n8"), (), ("fork", "n8", 2, ("n7",), 2, (0,)))))


if __name__ == "__main__":
    unittest.main()
