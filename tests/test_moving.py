"""Point 41: moved-out middles."""

import unittest

from looping import LoopMaker
from making import TICK, MadeCase, drawn_once, full_middle, one_function
from promises import second_loops, second_slight, second_small, unmoved

from samepaper.loops import loops_of
from samepaper.moving import moved_out
from samepaper.once import once


def many_rows(blocks):
    return sum(len(rows) for params, rows, end in blocks)


class MovedCase(MadeCase):
    def moved(self, middle, *values, bounds=(0, 1, 2, 3, 5, 12)):
        """The first function's blocks of a moved-out outcome, asked for all that is promised of it."""
        outcome, paper = self.made(moved_out, middle, come_to=False)
        for function, told in zip(middle, outcome):
            self.assertEqual(many_rows(told[2]), many_rows(function[2]))
            for (params, rows, end), (kept, left, new) in zip(function[2], told[2]):
                # Blocks have the numbers that they had: each is what it was, but for rows and ends.
                self.assertEqual(kept, params)
                self.assertEqual(new[0], end[0])
                self.assertLessEqual(set(left), set(rows))
            self.assertTrue(not second_slight(function) or isinstance(unmoved(function, told), int), unmoved(function, told))
        for told in values:
            self.assert_alike(middle, outcome, lambda number: told if number == 0 else (2,) * len(middle[number][2][0][0]), bounds)
        return outcome[0][2]

    def names_in(self, blocks, *numbers):
        return [row[0] for number in numbers for row in blocks[number][1]]


class LoopsTest(unittest.TestCase):
    """The loops of a function, as point 41 tells them."""

    def assert_loops(self, told, *ways):
        ends = {0: lambda: ("give", (1,)), 1: lambda a: ("go", a, ()), 2: lambda a, b: ("fork", 1, a, (), b, ())}
        function = ("f", "n", tuple(((), (), ends[len(way)](*way)) for way in ways))
        self.assertEqual({head: set(loop) for head, loop in loops_of(function).items()}, told)
        self.assertEqual(second_loops(function), told)

    def test_loops(self):
        self.assert_loops({}, (1,), (2, 3), (3,), ())
        self.assert_loops({1: {1}}, (1,), (1, 2), ())
        self.assert_loops({1: {1, 2}}, (1,), (2, 3), (1,), ())
        # Two ways back, one loop; a way out of the midst is none of it.
        self.assert_loops({1: {1, 2, 3}}, (1,), (2, 3), (1, 4), (1,), ())
        # Loops within loops.
        self.assert_loops({1: {1, 2, 3}, 2: {2, 3}}, (1,), (2, 4), (3, 1), (2,), ())
        # A ring that is come to in two places is no loop.
        self.assert_loops({}, (1, 2), (2,), (1, 3), ())
        # But one around it may be.
        self.assert_loops({1: {1, 2, 3}}, (1,), (2, 3), (3, 1), (2, 4), ())
        # Blocks that are not come to count for nothing.
        self.assert_loops({1: {1, 2}}, (1,), (2, 4), (1,), (1, 2), ())

    def test_by_chance(self):
        for seed in range(150):
            maker, middle = drawn_once(seed, blocks=12)
            for function in middle:
                self.assertEqual({head: set(loop) for head, loop in loops_of(function).items()}, second_loops(function))


class MovedTest(MovedCase):
    def test_one_loop(self):
        middle = one_function(
            (("n0", "n1"), (), ("go", 1, ("n0",))),
            (("n2",), (TICK, ("n3", "mul", ("n1", 7)), ("n4", "add", ("n3", "n2")), ("n5", "sub", ("n2", 1))), ("fork", "n5", 1, ("n5",), 2, ())),
            ((), (("n6", "add", ("n4", "n1")),), ("give", ("n6",))))
        blocks = self.moved(middle, (3, 4), (1, 1), (0, 2))
        self.assertEqual(self.names_in(blocks, 3), ["n3"])
        self.assertEqual(len(blocks), 4)

    def test_nothing_to_move(self):
        for rows in ((TICK,), (TICK, ("n3", "add", ("n2", "n1"))), (TICK, ("n3", "copy", ("n2",)), ("n4", "mul", ("n3", "n1")))):
            middle = one_function((("n0", "n1"), (("n9", "add", ("n1", 1)),), ("go", 1, ("n0",))), (("n2",), rows, ("fork", "n2", 1, (0,), 2, ())),
                                  ((), (), ("give", ("n9",))))
            self.assertEqual(self.moved(middle, (3, 4), (0, 1)), middle[0][2])
        middle = one_function((("n0",), (("n1", "add", ("n0", 1)),), ("give", ("n1",))))
        self.assertEqual(self.moved(middle, (3,)), middle[0][2])

    def test_needs_and_ticks_stay(self):
        middle = one_function(
            (("n0", "n1"), (), ("go", 1, ("n0",))),
            (("n2",), (TICK, ("n3", "same", ("n1", 7)), ("need", "bad", "n3"), ("need", "worse", "n1"), ("n5", "sub", ("n2", 1))),
             ("fork", "n5", 1, ("n5",), 2, ())),
            ((), (), ("give", ("n1",))))
        blocks = self.moved(middle, (3, 7), (3, 6), (1, 0), (0, 7))
        self.assertEqual(blocks[1][1][:3], (TICK, ("need", "bad", "n3"), ("need", "worse", "n1")))

    def test_rows_that_are_reckoned_on_some_rounds_alone(self):
        """Such rows are moved, too: operations tell a value at all times."""
        middle = one_function(
            (("n0", "n1", "r0"), (), ("go", 1, ("n0", 0))),
            (("n2", "n9"), (TICK, ("n3", "rest", ("n2", 2))), ("fork", "n3", 2, (), 3, ("n9",))),
            ((), (("n4", "div", (100, "n1")), ("n5", "at", ("r0", "n1")), ("n6", "add", ("n4", "n5"))), ("go", 3, ("n6",))),
            (("n7",), (("n8", "sub", ("n2", 1)), ("n10", "add", ("n7", "n9"))), ("fork", "n8", 1, ("n8", "n10"), 4, ())),
            ((), (), ("give", ("n10",))))
        blocks = self.moved(middle, (4, 0, (1,)), (5, 1, (5, 6)), (1, -1, ()))
        self.assertEqual(self.names_in(blocks, 5), ["n4", "n5", "n6"])

    def test_chains_of_rows(self):
        rows = (("n3", "add", ("n1", 1)), ("r1", "make", ("n3", 5)), TICK, ("r2", "put", ("r1", 0, "n1")), ("n4", "at", ("r2", 1)),
                ("n5", "mul", ("n4", "n2")), ("n6", "copy", (3,)), ("r3", "make", ()), ("r4", "keep", ("r3",)))
        middle = one_function((("n0", "n1"), (), ("go", 1, ("n0",))), (("n2",), rows + (("n7", "sub", ("n2", "n6")),), ("fork", "n7", 1, ("n7",), 2, ())),
                              ((), (("n8", "size", ("r4",)), ("n9", "add", ("n8", "n5"))), ("give", ("n9",))))
        blocks = self.moved(middle, (9, 2), (3, -1))
        self.assertEqual(self.names_in(blocks, 3), ["n3", "r1", "r2", "n4", "n6", "r3", "r4"])
        self.assertEqual(self.names_in(blocks, 1), ["tick", "n5", "n7"])

    def test_params_of_the_head(self):
        """What reads them stays, though the same is laid into one each time."""
        middle = one_function((("n0", "n1"), (), ("go", 1, ("n0", "n1"))),
                              (("n2", "n3"), (TICK, ("n4", "mul", ("n3", 5)), ("n5", "sub", ("n2", 1))), ("fork", "n5", 1, ("n5", "n3"), 2, ())),
                              ((), (), ("give", ("n4",))))
        self.assertEqual(self.moved(middle, (3, 4), (1, 0)), middle[0][2])

    def test_loops_within_loops(self):
        """Rows leave as many loops as they can."""
        middle = one_function(
            (("n0", "n1"), (), ("go", 1, ("n0", 0))),
            (("n2", "n3"), (TICK, ("n4", "add", ("n2", 1))), ("go", 2, ("n1", "n3"))),
            (("n5", "n6"), (TICK, ("n7", "mul", ("n1", 3)), ("n8", "mul", ("n4", "n7")), ("n9", "add", ("n5", "n8")), ("n10", "add", ("n6", "n9")),
                            ("n11", "sub", ("n5", 1))), ("fork", "n11", 2, ("n11", "n10"), 3, ())),
            ((), (("n12", "sub", ("n2", 1)),), ("fork", "n12", 1, ("n12", "n10"), 4, ())),
            ((), (("n13", "add", ("n10", "n7")),), ("give", ("n13",))))
        blocks = self.moved(middle, (2, 3), (1, 1), (3, 2), bounds=range(0, 14))
        self.assertEqual([self.names_in(blocks, 5), self.names_in(blocks, 6)], [["n7"], ["n8"]])

    def test_several_ways_back(self):
        middle = one_function(
            (("n0", "n1"), (), ("go", 1, ("n0",))),
            (("n2",), (TICK, ("n3", "mul", ("n1", "n1"))), ("fork", "n2", 2, (), 4, ())),
            ((), (("n4", "sub", ("n2", 1)), ("n5", "add", ("n3", 1))), ("fork", "n1", 1, ("n4",), 3, ())),
            ((), (("n6", "sub", ("n3", 1)), ("n7", "add", ("n4", "n6")), ("n8", "mul", ("n5", "n5"))), ("fork", "n7", 1, (0,), 1, ("n4",))),
            ((), (), ("give", ("n3",))))
        blocks = self.moved(middle, (3, 0), (3, 1), (1, 5))
        self.assertEqual(self.names_in(blocks, 5), ["n3", "n5", "n6", "n8"])

    def test_heads_come_to_by_calls_and_forks(self):
        middle = (("f", "n", (
            (("n0", "n1"), (), ("fork", "n0", 1, (), 2, ())),
            ((), (), ("call", 1, ("n0",), 3, ("n1", 2))),
            ((), (), ("fork", "n1", 3, (1, "n1", 4), 3, (3, 3, 3))),
            (("n2", "n3", "n4"), (("n5", "mul", ("n1", "n0")), ("n6", "add", ("n5", "n3")), ("n7", "sub", ("n2", 1))), ("fork", "n7", 4, (), 5, ())),
            ((), (("n8", "div", ("n0", 2)),), ("call", 1, ("n7",), 3, ("n8", "n6"))),
            ((), (("n9", "add", ("n6", "n4")),), ("give", ("n9",))))),
            ("g", "n", ((("n0",), (), ("give", ("n0",))),)))
        blocks = self.moved(middle, (0, 0), (0, 4), (2, 3), (5, 1))
        self.assertEqual(self.names_in(blocks, 6), ["n5", "n8"])

    def test_a_head_that_is_its_own_loop_and_waits_for_itself(self):
        middle = (("f", "n", (
            (("n0",), (), ("call", 1, ("n0",), 1, ())),
            (("n1",), (("n2", "add", ("n0", 5)), ("n3", "less", ("n1", "n2"))), ("fork", "n3", 2, (), 3, ())),
            ((), (), ("call", 1, ("n1",), 1, ())),
            ((), (), ("give", ("n1",))))), ("g", "n", ((("n0",), (("n1", "add", ("n0", 1)),), ("give", ("n1",))),)))
        self.moved(middle, (3,), (32760,), bounds=range(0, 9))
        alone = (("f", "n", ((("n0",), (), ("go", 1, ("n0",))), (("n1",), (("n2", "add", ("n0", 5)),), ("call", 1, ("n2",), 1, ())))), middle[1])
        self.moved(alone, (3,))

    def test_blocks_that_are_not_come_to(self):
        """They stay as they are, with their numbers, though they lead to a head."""
        middle = one_function(
            (("n0",), (), ("go", 2, ("n0",))),
            ((), (("n9", "add", ("n8", 1)),), ("go", 2, ("n9",))),
            (("n1",), (TICK, ("n2", "mul", ("n0", 3)), ("n3", "sub", ("n1", 1))), ("fork", "n3", 2, ("n3",), 3, ())),
            ((), (), ("give", ("n2",))))
        blocks = self.moved(middle, (2,))
        self.assertEqual(blocks[1], middle[0][2][1])
        self.assertEqual(self.names_in(blocks, 4), ["n2"])

    def test_names_that_live_behind_the_loop_alone(self):
        middle = one_function(
            (("n0", "n1"), (), ("go", 1, ("n0",))),
            (("n2",), (TICK, ("n3", "mul", ("n1", 7)), ("n5", "sub", ("n2", 1))), ("fork", "n5", 1, ("n5",), 2, ())),
            ((), (TICK,), ("go", 3, ())),
            ((), (("n6", "add", ("n3", "n1")),), ("give", ("n6",))))
        self.moved(middle, (3, 4), (1, 1))

    def test_rings_that_are_no_loops(self):
        middle = one_function((("n0", "n1"), (), ("fork", "n0", 1, (), 2, ())), ((), (TICK, ("n2", "mul", ("n1", 3))), ("fork", "n2", 2, (), 3, ())),
                              ((), (TICK, ("n3", "mul", ("n1", 4))), ("fork", "n3", 1, (), 3, ())), ((), (), ("give", (1,))))
        self.assertEqual(self.moved(middle, (0, 0), (1, 2)), middle[0][2])


class LargeTermsTest(MovedCase):
    def loop(self, rows, last, outer=()):
        """A loop around rows that read n0; outer rows stand ahead of it."""
        return one_function((("n0", "n90"), outer, ("go", 1, ("n90",))), (("n91",), rows + (TICK, ("n92", "sub", ("n91", 1))), ("fork", "n92", 1, ("n92",), 2, ())),
                            ((), (), ("give", (last,))))

    def chain(self, deep, op, twice):
        names = ["n0"] + [f"n{k}" for k in range(1, deep + 1)]
        return tuple((name, op, (ahead, ahead if twice else 7)) for ahead, name in zip(names, names[1:]))

    def test_twelve_within_one_another(self):
        for deep in (1, 10, 11, 12, 13, 25, 27):
            blocks = self.moved(self.loop(self.chain(deep, "div", False), f"n{deep}"), (32767, 3), (-5, 1))
            self.assertEqual(len(blocks[3][1]), min(deep, 11))

    def test_sixty_in_all(self):
        for deep in range(1, 9):
            blocks = self.moved(self.loop(self.chain(deep, "mul", True), f"n{deep}"), (3, 3), (-1, 1))
            # 3, 7, 15, 31, 63, .. terms in all.
            self.assertEqual(len(blocks[3][1]), min(deep, 4))

    def test_makes_of_makes(self):
        rows = (("r0", "make", ("n0",) * 8), ("r1", "put", ("r0", 1, "n0")), ("n1", "at", ("r1", 1)), ("r2", "make", ("n1",) * 4),
                ("n2", "size", ("r2",)), ("r3", "make", ("n1",) * 5), ("n3", "size", ("r3",)))
        # Of r0 nine, r1 twelve, n1 fourteen, r2 57, n2 58; r3 71.
        blocks = self.moved(self.loop(rows, "n2"), (3, 3))
        self.assertEqual(self.names_in(blocks, 3), ["r0", "r1", "n1", "r2", "n2"])

    def test_what_is_given_outside_is_a_name(self):
        """A term at the head has the names that are given there; so an inner loop's head has more of them."""
        outer = self.chain(11, "div", False)
        middle = self.loop((("n50", "div", ("n11", 3)),), "n50", outer)
        self.assertEqual(self.names_in(self.moved(middle, (7, 2)), 3), ["n50"])

    def test_inner_loops(self):
        """A chain that is too long at the outer head, but not at the inner one."""
        chain = self.chain(14, "div", False)
        middle = one_function(
            (("n0", "n20"), (), ("go", 1, ("n20",))),
            (("n21",), (TICK,) + chain[:8], ("go", 2, (2,))),
            (("n22",), (TICK,) + chain[8:] + (("n23", "sub", ("n22", 1)),), ("fork", "n23", 2, ("n23",), 3, ())),
            ((), (("n24", "sub", ("n21", 1)), ("n25", "add", ("n14", "n8"))), ("fork", "n24", 1, ("n24",), 4, ())),
            ((), (), ("give", ("n25",))))
        blocks = self.moved(middle, (32767, 3), (-3, 1), bounds=range(0, 12))
        self.assertEqual([self.names_in(blocks, 5), self.names_in(blocks, 6)],
                         [[f"n{k}" for k in range(1, 12)], ["n12", "n13", "n14"]])


class SizesTest(MovedCase):
    def test_slight_functions_at_their_counts(self):
        """More rows, or operands, than one block may have are moved out of a loop of several blocks."""
        makes = [(f"r{k}", "make", (k,) * 8) for k in range(58)]
        blocks = [((), (), ("go", 1, (3,))), (("n0",), tuple(makes[:29]) + (TICK,), ("go", 2, ())),
                  ((), tuple(makes[29:]) + (("n1", "sub", ("n0", 1)),), ("fork", "n1", 1, ("n1",), 3, ())), ((), (), ("give", ("r57", "r0")))]
        middle = one_function(*blocks, results="rr")
        self.assertTrue(second_slight(middle[0]))
        told = self.moved(middle, (), bounds=(0, 2, 3))
        self.assertEqual([len(rows) for params, rows, end in told], [0, 1, 1, 0, 40, 18])

    def test_twelve_blocks(self):
        """Eleven loops within one another, with a row of its own for each."""
        blocks = [(("n0",), (), ("go", 1, ("n0",)))]
        for b in range(1, 12):
            rows = (TICK, (f"n{20 + b}", "mul", (f"n{b}", 3)), (f"n{40 + b}", "mul", ("n0", b)))
            lead = ("go", b + 1, (f"n{20 + b}",)) if b < 11 else ("fork", "n51", 1, ("n31",), b, (0,))
            blocks.append(((f"n{b}",), rows, ("fork", f"n{20 + b}", b, ("n0",), *lead[1:3]) if b < 11 else lead))
        middle = one_function(*blocks)
        self.assertTrue(second_slight(middle[0]))
        self.assertEqual(len(second_loops(middle[0])), 11)
        self.moved(middle, (0,), (5,))

    def test_as_many_params_as_there_may_be(self):
        names = [f"n{k}" for k in range(57)]
        middle = one_function(
            ((), (), ("go", 1, tuple(range(57)))),
            (tuple(names), (TICK, ("n57", "copy", (7,)), ("n58", "sub", ("n0", 1))), ("fork", "n58", 1, ("n58", *names[1:]), 2, ())),
            ((), tuple(("need", "bad", name) for name in names[1:30]), ("go", 3, ())),
            ((), tuple(("need", "bad", name) for name in names[30:]), ("give", ("n57",))))
        self.assertTrue(second_slight(middle[0]))
        self.moved(middle, (), bounds=(0, 65535))

    def test_forty_blocks(self):
        """Where there is no room for a new block, nothing is moved; all stays small."""
        blocks = [(("n0",), (), ("go", 1, ("n0",)))]
        for b in range(1, 39):
            blocks.append(((f"n{b}",), (TICK, (f"n{100 + b}", "mul", ("n0", b))), ("fork", f"n{b}", b, (0,), b + 1, (f"n{100 + b}",))))
        middle = one_function(*blocks, (("n39",), (), ("give", ("n39",))))
        self.assertTrue(second_small(middle))
        self.moved(middle, (2,))
        fewer = one_function(*blocks[:20], ((f"n{20}",), (), ("give", ("n20",))))
        told = self.moved(fewer, (2,))
        self.assertEqual(len(told), 21 + 19)

    def test_told_counts(self):
        values = tuple(range(58)) + ((1, 2), (3,))
        self.moved(once(full_middle())[0], values, bounds=(0, 7))


class DrawnTest(MovedCase):
    def test_by_chance(self):
        for seed in range(150):
            maker, middle = drawn_once(seed, blocks=4 + seed % 9)
            outcome, paper = self.made(moved_out, middle, come_to=False)
            for function, told in zip(middle, outcome):
                self.assertTrue(not second_slight(function) or isinstance(unmoved(function, told), int))
            self.assert_alike(middle, outcome, lambda number: maker.values(middle, number))

    def test_loops_by_chance(self):
        moved, stayed = 0, 0
        for seed in range(250):
            maker = LoopMaker(seed, deep=1 + seed % 3, rows=(14, 4, 7)[seed % 3], twice=(0.2, 0.9)[seed % 2])
            middle = maker.middle()
            if second_small(middle):
                blocks = self.moved(middle, maker.values(), maker.values(), bounds=(0, 1, 4, 9))
                moved += len(blocks) > len(middle[0][2])
                stayed += second_slight(middle[0]) and unmoved(middle[0], ("f", "n", blocks)) > 0
        self.assertGreater(moved, 150)
        self.assertGreater(stayed, 0)


if __name__ == "__main__":
    unittest.main()
