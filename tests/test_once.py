"""Points 35, 36 and 37: middles that are once, those made so, and the stands at their blocks."""

import unittest

from making import TICK, MadeCase, drawn, drawn_once, full_middle, one_function
from middles import second_come_to, second_given
from promises import second_once

from samepaper.middle import right_middle
from samepaper.numbers import done
from samepaper.once import is_once, once, stands_at
from samepaper.papers import shape_asked
from samepaper.terms import value_of


class IsOnceTest(unittest.TestCase):
    def assert_once(self, told, *blocks):
        middle = one_function(*blocks)
        right_middle(middle)
        self.assertIs(is_once(middle), told)

    def test_once(self):
        self.assert_once(True, (("n0", "r0"), (("n1", "copy", (1,)), ("r1", "make", ())), ("go", 1, (1,))),
                         (("n2",), (("n3", "copy", (1,)),), ("give", ("n3",))))
        self.assert_once(True, ((), (), ("give", (1,))))

    def test_a_name_given_twice(self):
        copy, end = ("n1", "copy", (1,)), ("give", (1,))
        # In one block by rows, by a param and a row.
        self.assert_once(False, ((), (copy, copy), end))
        self.assert_once(False, (("n1",), (copy,), end))
        # In two blocks: by rows, by params, by both.
        self.assert_once(False, ((), (copy,), ("go", 1, ())), ((), (copy,), end))
        self.assert_once(False, (("n1",), (), ("go", 1, (1,))), (("n1",), (), end))
        self.assert_once(False, (("n1",), (), ("go", 1, ())), ((), (copy,), end))
        self.assert_once(False, ((), (copy,), ("go", 1, (1,))), (("n1",), (), end))

    def test_blocks_that_are_not_come_to(self):
        copy, end = ("n1", "copy", (1,)), ("give", (1,))
        self.assert_once(False, ((), (copy,), end), ((), (copy,), end))
        self.assert_once(False, ((), (copy,), end), (("n1",), (), end))
        self.assert_once(False, ((), (), end), (("n1",), (copy,), end))
        self.assert_once(True, ((), (copy,), end), ((), (("n2", "copy", ("n3",)),), end))

    def test_names_are_of_one_function(self):
        first = ("f", "n", ((("n0",), (("n1", "copy", (1,)),), ("give", (1,))),))
        twice = ("g", "n", ((("n0",), (("n0", "copy", (1,)),), ("give", (1,))),))
        self.assertIs(is_once((first, ("g", *first[1:]))), True)
        self.assertIs(is_once((first, twice)), False)
        self.assertIs(is_once((twice, first)), False)

    def test_needs_and_ticks_give_nothing(self):
        self.assert_once(True, (("n0",), (TICK, TICK, ("need", "bad", "n0"), ("need", "bad", "n0")), ("give", (1,))))

    def test_n1_and_r1_are_unlike(self):
        self.assert_once(True, (("n1", "r1"), (), ("give", (1,))))

    def test_by_chance(self):
        told = {True: 0, False: 0}
        for seed in range(200):
            maker, middle = drawn(seed, names=30, blocks=2, rows=2)
            self.assertIs(is_once(middle), second_once(middle))
            told[is_once(middle)] += 1
        self.assertGreater(min(told.values()), 20, told)


class OnceTest(MadeCase):
    def values(self, *told):
        """Values for all functions: one after the other of those told."""
        return lambda number: told

    def test_names_given_again_in_one_block(self):
        middle = one_function((("n0",), (("n0", "add", ("n0", 1)), ("n0", "mul", ("n0", "n0"))), ("give", ("n0",))))
        outcome, paper = self.made(once, middle)
        for k in (0, 1, -1, 300):
            self.assert_alike(middle, outcome, self.values(k))

    def test_a_loop(self):
        middle = one_function(
            (("n0",), (("n1", "copy", (0,)),), ("go", 1, ())),
            ((), (), ("fork", "n0", 2, (), 3, ())),
            ((), (TICK, ("n1", "add", ("n1", "n0")), ("n0", "sub", ("n0", 1))), ("go", 1, ())),
            ((), (), ("give", ("n1",))))
        outcome, paper = self.made(once, middle)
        for k in (0, 1, 2, 5):
            self.assert_alike(middle, outcome, self.values(k))

    def test_params_laid_crosswise_in_a_loop(self):
        middle = one_function(
            (("n0", "n1", "n2"), (), ("go", 1, ("n0", "n1"))),
            (("n0", "n1"), (TICK, ("n2", "sub", ("n2", 1))), ("fork", "n2", 1, ("n1", "n0"), 2, ())),
            ((), (("n3", "sub", ("n0", "n1")),), ("give", ("n3",))))
        outcome, paper = self.made(once, middle)
        for k in (1, 2, 3):
            self.assert_alike(middle, outcome, self.values(7, 2, k))

    def test_both_ways_of_a_fork(self):
        middle = one_function(
            (("n0",), (("n1", "copy", (5,)),), ("fork", "n0", 1, (), 2, ())),
            ((), (("n1", "add", ("n1", 1)),), ("go", 3, ())),
            ((), (("n2", "copy", (9,)), ("n1", "add", ("n1", "n2"))), ("go", 3, ())),
            ((), (), ("give", ("n1",))))
        outcome, paper = self.made(once, middle)
        for k in (0, 1):
            self.assert_alike(middle, outcome, self.values(k))
        # Given on one way alone: the other one hands on what was there.
        half = one_function(middle[0][2][0], middle[0][2][1], ((), (), ("go", 3, ())), middle[0][2][3])
        outcome, paper = self.made(once, half)
        for k in (0, 1):
            self.assert_alike(half, outcome, self.values(k))

    def test_one_block_by_both_ways_of_a_fork(self):
        middle = one_function((("n0", "n1"), (("n1", "add", ("n1", 1)),), ("fork", "n0", 1, (1,), 1, ("n1",))),
                              (("n0",), (("n2", "add", ("n0", "n1")),), ("give", ("n2",))))
        outcome, paper = self.made(once, middle)
        for k in (0, 1):
            self.assert_alike(middle, outcome, self.values(k, 7))

    def test_results_of_calls(self):
        middle = (
            ("f", "n", (
                (("n0", "n1"), (), ("call", 1, ("n0",), 1, ("n1",))),
                (("n0", "n2"), (("n1", "add", ("n1", "n0")),), ("call", 1, ("n1",), 2, ())),
                (("n0",), (("n3", "add", ("n0", "n1")), ("n3", "add", ("n3", "n2"))), ("give", ("n3",))),
            )),
            ("g", "n", ((("n0",), (("n0", "mul", ("n0", 3)),), ("give", ("n0",))),)),
        )
        outcome, paper = self.made(once, middle)
        self.assert_alike(middle, outcome, lambda number: (4, 5)[:2 - number])

    def test_blocks_that_are_not_come_to(self):
        middle = one_function(
            (("n0",), (), ("go", 3, ())), ((), (("n0", "copy", ("n9",)),), ("go", 3, ())),
            (("n0",), (), ("go", 1, ())), ((), (), ("give", ("n0",))))
        outcome, paper = self.made(once, middle)
        self.assertEqual(len(outcome[0][2]), 2)

    def test_new_names_are_names_of_nobody_else(self):
        """Names that stand between the new ones are not given again."""
        rows = tuple((f"n{k}", "add", ("n1", k)) for k in (5, 0, 2, 3)) + (("n1", "add", ("n1", "n5")),) * 3
        middle = one_function((("n1",), rows, ("go", 1, ())), ((), (("n4", "sub", ("n1", "n0")),), ("give", ("n4",))))
        outcome, paper = self.made(once, middle)
        self.assert_alike(middle, outcome, self.values(3))
        high = one_function((("n99999",), (("n99999", "add", ("n99999", 1)),), ("give", ("n99999",))))
        self.assert_alike(high, self.made(once, high)[0], self.values(3))

    def test_told_counts(self):
        middle = full_middle()
        outcome, paper = self.made(once, middle)
        self.assertEqual(max(len(params) for params, rows, end in outcome[0][2]), 60)
        values = tuple(range(58)) + ((1, 2), (3,))
        self.assert_alike(middle, outcome, lambda number: values)
        turned = tuple(range(1, 59)) + ((), (3, 4, 5))
        self.assert_alike(middle, outcome, lambda number: turned)

    def test_sixty_names_of_which_some_are_params(self):
        names = [f"n{k}" for k in range(60)]
        rows = tuple((name, "add", (name, 1)) for name in names)
        middle = one_function((tuple(names), rows, ("go", 1, tuple(names[:30]))),
                              (tuple(names[30:]), (TICK, *rows[1:]), ("fork", "n3", 1, tuple(names[:30]), 2, tuple(names))),
                              (tuple(names), (), ("give", ("n59",))))
        outcome, paper = self.made(once, middle)
        self.assert_alike(middle, outcome, lambda number: tuple(range(60)))

    def test_by_chance(self):
        again = 0
        for seed in range(240):
            maker, middle = drawn(seed)
            again += not is_once(middle)
            outcome, paper = self.made(once, middle)
            self.assertIs(is_once(outcome), True)
            self.assert_alike(middle, outcome, lambda number: maker.values(middle, number))
        self.assertGreater(again, 150)


class StandsTest(unittest.TestCase):
    MIDDLE = (
        ("f", "n", (((), (), ("give", (1,))),)),
        ("g", "n", (
            (("n0", "r0"), (("n1", "add", ("n0", 2)), TICK, ("n2", "at", ("r0", "n1")), ("need", "bad", "n2")),
             ("fork", "n2", 1, (), 2, ("n1",))),
            ((), (("n4", "mul", ("n1", "n1")),), ("go", 3, ("n4",))),
            (("n5",), (("r1", "make", ()), ("n6", "copy", (-7,))), ("go", 3, ("n6",))),
            (("n7",), (TICK, ("n8", "add", ("n7", 1))), ("fork", "n8", 3, ("n8",), 5, ())),
            ((), (("n9", "copy", ("n77",)),), ("go", 3, ("n9",))),
            ((), (), ("give", ("n8",))),
        )),
    )

    def test_each_block(self):
        right_middle(self.MIDDLE)
        told = stands_at(self.MIDDLE, 1)
        self.assertIs(type(told), list)
        first = (((0, "n1"), ("add", (0, "n0"), 2)), ((0, "n2"), ("at", (0, "r0"), (0, "n1"))))
        self.assertEqual(told[:4], [(), first, first, first])
        self.assertIsNone(told[4])
        self.assertEqual(set(told[5]), {*first, ((0, "n8"), ("add", (0, "n7"), 1))})
        self.assertEqual(stands_at(self.MIDDLE, 0), [()])

    def test_a_row_of_no_operands_and_of_numbers(self):
        middle = one_function(((), (("r0", "make", ()), ("n0", "add", (1, 2)), ("r1", "many", ("n0", -5))), ("go", 1, ())),
                              ((), (), ("give", ("n0",))))
        self.assertEqual(set(stands_at(middle, 0)[1]), {((0, "r0"), ("make",)), ((0, "n0"), ("add", 1, 2)),
                                                        ((0, "r1"), ("many", (0, "n0"), -5))})

    def test_blocks_in_any_order(self):
        """Rows that are read stand in blocks of higher numbers."""
        middle = one_function((("n0",), (), ("go", 3, ())), ((), (("n3", "add", ("n2", "n1")),), ("go", 4, ())),
                              ((), (("n2", "add", ("n1", 1)),), ("go", 1, ())), ((), (("n1", "add", ("n0", 1)),), ("go", 2, ())),
                              ((), (), ("give", ("n3",))))
        self.assertEqual([name for (depth, name), term in stands_at(middle, 0)[4]], ["n1", "n2", "n3"])

    def test_what_is_told_is_the_askers_own(self):
        stands_at(self.MIDDLE, 1).clear()
        self.assertEqual(len(stands_at(self.MIDDLE, 1)), 6)

    def test_by_chance(self):
        many = 0
        for seed in range(150):
            maker, middle = drawn_once(seed)
            for number, function in enumerate(middle):
                told = stands_at(middle, number)
                self.assert_stands(function, told)
                many += sum(len(stands) for stands in told)
                # They are stands of a paper, in this order.
                paper = tuple(tuple((((n, b),), told[b] if n == number else (), (), ()) for b in range(len(f[2])))
                              for n, f in enumerate(middle))
                self.assertTrue(shape_asked(middle, middle, paper))
                for k in range(4):
                    self.run_asking(middle, number, maker.values(middle, number), told)
        self.assertGreater(many, 1000)

    def assert_stands(self, function, told):
        rows = {row[0]: ((0, row[0]), (row[1], *((0, o) if isinstance(o, str) else o for o in row[2])))
                for b in second_come_to(function) for row in function[2][b][1] if len(row) == 3 and row[0] != "need"}
        for stands, given in zip(told, second_given(function), strict=True):
            if given is None:
                self.assertIsNone(stands)
                continue
            self.assertIs(type(stands), tuple)
            self.assertEqual(sorted(map(str, stands)), sorted(str(rows[name]) for name in given if name in rows))

    def run_asking(self, middle, number, values, told, bound=12):
        """Runs a function, without those that it calls, and asks the equations at each block that it comes to."""
        frame, block, blocks = {}, 0, middle[number][2]

        def of(operands):
            return tuple(frame[o] if isinstance(o, str) else o for o in operands)

        while True:
            params, rows, end = blocks[block]
            frame.update(zip(params, values, strict=True))
            for (depth, name), term in told[block]:
                self.assertEqual(frame[name], value_of(term, {(0, each): frame[each] for each in frame}))
            for row in rows:
                if row == TICK:
                    bound -= 1
                elif row[0] == "need":
                    bound = bound if of(row[2:]) != (0,) else -1
                else:
                    frame[row[0]] = done(row[1], of(row[2]))
            if bound < 0 or end[0] == "give":
                return
            if end[0] == "call":
                # Whatever a call may give.
                bound -= 1
                results = tuple(bound if kind == "n" else (bound, 1) for kind in middle[end[1]][1])
                block, values = end[3], results + of(end[4])
            elif end[0] == "go":
                block, values = end[1], of(end[2])
            else:
                block, values = (end[2], of(end[3])) if of(end[1:2]) != (0,) else (end[4], of(end[5]))


if __name__ == "__main__":
    unittest.main()
