"""Points 42 and 43: boxed middles."""

import unittest

from looping import LoopMaker
from making import NAMES, TICK, MadeCase, drawn_once, full_middle, one_function
from promises import second_boxed, second_small

from samepaper.boxing import boxed, is_boxed
from samepaper.middle import right_middle
from samepaper.once import once

COUNTS = ((3, 1), (3, 4), (8, 1), (8, 4), (5, 2))


class IsBoxedTest(unittest.TestCase):
    def assert_boxed(self, told, *blocks, counts=(3, 1), results="n"):
        middle = one_function(*blocks, results=results)
        self.assert_middle(told, middle, counts)

    def assert_middle(self, told, middle, counts=(3, 1)):
        right_middle(middle)
        self.assertIs(is_boxed(middle, *counts), told)
        self.assertIs(second_boxed(middle, *counts), told)

    def test_plain_ones(self):
        self.assert_boxed(True, ((), (), ("give", (1,))))
        self.assert_boxed(True, (("n9",), (("n0", "copy", ("n9",)), ("n1", "add", ("n0", 1)), ("n10", "copy", ("n1",))), ("go", 1, ())),
                          ((), (TICK, ("n0", "copy", ("n10",)), ("need", "bad", "n0")), ("give", ("n0",))))

    def test_names_at_the_counts(self):
        for numbers in range(3, 9):
            for rows in range(1, 5):
                for name, told in ((f"n{numbers - 1}", True), (f"n{numbers}", False)):
                    self.assert_boxed(told, ((), ((name, "add", (1, 2)),), ("give", (name,))), counts=(numbers, rows))
                for name, told in ((f"r{rows - 1}", True), (f"r{rows}", False)):
                    self.assert_boxed(told, ((), ((name, "make", (1, 2)),), ("give", (name,))), counts=(numbers, rows), results="r")
                # Params the other way about.
                self.assert_boxed(False, ((f"n{numbers - 1}",), (), ("give", (1,))), counts=(numbers, rows))
                self.assert_boxed(True, ((f"n{numbers}",), (), ("give", (1,))), counts=(numbers, rows))
                self.assert_boxed(False, ((f"r{rows - 1}",), (), ("give", (1,))), counts=(numbers, rows))
                self.assert_boxed(True, ((f"r{rows}",), (), ("give", (1,))), counts=(numbers, rows))

    def test_args_of_go_and_fork(self):
        for told, params, args in ((True, (), ()), (False, ("n9",), (1,)), (False, ("n9",), ("n0",))):
            given, last = ("n0", "copy", (1,)), (params, (), ("give", (1,)))
            self.assert_boxed(told, ((), (given,), ("go", 1, args)), last)
            self.assert_boxed(told, ((), (given,), ("fork", "n0", 1, args, 2, ())), last, ((), (), ("give", (1,))))
            self.assert_boxed(told, ((), (given,), ("fork", "n0", 2, (), 1, args)), last, ((), (), ("give", (1,))))

    def test_more_of_a_call(self):
        g = ("g", "n", ((("n9",), (), ("give", ("n9",))),))
        for told, params, more in ((True, ("n9",), ()), (False, ("n9", "n10"), (1,)), (False, ("n9", "n10"), ("n8",))):
            f = ("f", "n", ((("n8",), (), ("call", 1, ("n8",), 1, more)), (params, (), ("give", ("n9",)))))
            self.assert_middle(told, (f, g))
            self.assert_middle(told, (g, ("f", "n", ((("n8",), (), ("call", 0, (5,), 1, more)), f[2][1]))))

    def test_a_box_is_no_parameter(self):
        g = ("g", "n", ((("n9",), (), ("give", ("n9",))),))
        for told, name in ((True, "n9"), (False, "n2"), (True, "n3")):
            self.assert_middle(told, (("f", "n", (((), (), ("call", 1, (1,), 1, ())), ((name,), (), ("give", (1,))))), g))

    def test_rows_of_operations(self):
        first = (("n0", "copy", (1,)), ("r0", "make", (1,)))
        for told, row in ((True, ("n1", "add", ("n0", 5))), (True, ("n1", "add", (3, 5))), (False, ("n9", "add", ("n0", 5))),
                          (False, ("n1", "add", ("n0", "n8"))), (False, ("n1", "add", ("n8", "n0"))), (True, ("n1", "at", ("r0", "n0"))),
                          (False, ("n1", "at", ("r8", "n0"))), (False, ("n1", "at", ("r0", "n8"))), (True, ("n1", "size", ("r0",))),
                          (False, ("n1", "size", ("r8",))), (True, ("r0", "put", ("r0", "n0", "n0"))), (False, ("r9", "put", ("r0", 1, 2))),
                          (True, ("r0", "make", ("n0", 3))), (True, ("r0", "make", ())), (False, ("r9", "make", ())), (False, ("r0", "make", ("n8",))),
                          (True, ("n0", "pick", ("n0", "n0", "n0"))), (False, ("n0", "pick", ("n0", "n0", "n8"))), (True, ("r0", "many", (2, "n0")))):
            self.assert_boxed(told, (("n8", "r8"), (*first, row), ("give", (1,))))

    def test_rows_of_copy_and_keep(self):
        first = (("n0", "copy", (1,)), ("r0", "make", (1,)))
        for told, row in ((True, ("n1", "copy", ("n8",))), (True, ("n9", "copy", ("n0",))), (True, ("n1", "copy", ("n0",))), (True, ("n1", "copy", (5,))),
                          (False, ("n9", "copy", ("n8",))), (False, ("n9", "copy", (5,))), (False, ("n8", "copy", ("n8",))),
                          (True, ("r0", "keep", ("r8",))), (True, ("r9", "keep", ("r0",))), (True, ("r0", "keep", ("r0",))), (False, ("r9", "keep", ("r8",)))):
            self.assert_boxed(told, (("n8", "r8"), (*first, row), ("give", (1,))))

    def test_needs_and_forks(self):
        last = ((), (), ("give", (1,)))
        for told, operand in ((True, "n0"), (True, 0), (True, 7), (False, "n8")):
            self.assert_boxed(told, (("n8",), (("n0", "copy", (1,)), ("need", "bad", operand)), ("give", (1,))))
            self.assert_boxed(told, (("n8",), (("n0", "copy", (1,)),), ("fork", operand, 1, (), 1, ())), last)

    def test_what_ends_may_read(self):
        g = ("g", "", ((("n9", "n10", "n11", "r9", "r10"), (), ("give", ())),))
        rows = (("n0", "copy", (1,)), ("r0", "make", (1,)))
        f = ("f", "nnnr", ((("n8", "r8"), rows, ("call", 1, ("n0", "n8", 3, "r0", "r8"), 1, ())),
                           ((), (("n0", "copy", (1,)), ("r0", "make", ())), ("give", ("n0", "n8", 3, "r0")))))
        self.assert_middle(True, (f, g))

    def test_boxes_given_ahead_in_the_same_block(self):
        """By a row: in another block, or behind, is not enough."""
        given, g = ("n0", "copy", (1,)), ("g", "", ((("n9",), (), ("give", ())),))
        for told, rows in ((True, (given,)), (False, ())):
            for reads in ((("n1", "add", ("n0", 1)),), (("n9", "copy", ("n0",)),), (("need", "bad", "n0"),)):
                self.assert_boxed(told, ((), (given,), ("go", 1, ())), ((), (*rows, *reads, given), ("give", (1,))))
            self.assert_boxed(told, ((), (given,), ("go", 1, ())), ((), rows, ("give", ("n0",))))
            self.assert_boxed(told, ((), (given,), ("go", 1, ())), ((), rows, ("fork", "n0", 2, (), 2, ())), ((), (), ("give", (1,))))
            self.assert_middle(told, (("f", "n", (((), (given,), ("go", 1, ())), ((), rows, ("call", 1, ("n0",), 2, ())), ((), (), ("give", (1,))))), g))
            self.assert_middle(told, (("f", "n", (((), (given,), ("call", 1, (1,), 1, ())), ((), rows, ("give", ("n0",))))), g))
        # A row that gives what it reads.
        self.assert_boxed(False, ((), (given,), ("go", 1, ())), ((), (("n0", "add", ("n0", 1)),), ("give", (1,))))

    def test_all_functions_and_blocks(self):
        good, bad = ((), (), ("give", (1,))), (("n0",), (), ("give", (1,)))
        self.assert_middle(False, (("f", "n", (good,)), ("g", "n", (bad,))))
        self.assert_middle(False, (("f", "n", (bad,)), ("g", "n", (good,))))
        self.assert_middle(True, (("f", "n", (good,)), ("g", "n", (good,))))
        self.assert_boxed(False, good, bad)

    def test_by_chance(self):
        """Boxed middles asked with other counts, and middles that are not dealt."""
        told = {True: 0, False: 0}
        for seed in range(120):
            maker, middle = drawn_once(seed)
            outcome = boxed(middle, 3 + seed % 6, 1 + seed % 4)[0]
            for asked in (middle, outcome):
                for counts in COUNTS:
                    self.assertIs(is_boxed(asked, *counts), second_boxed(asked, *counts))
                    told[is_boxed(asked, *counts)] += 1
        self.assertGreater(min(told.values()), 50)


class BoxedCase(MadeCase):
    def boxed(self, middle, *values, counts=COUNTS, bounds=(0, 1, 2, 5, 12)):
        """Asks a small once middle's outcomes with several counts for all that is promised; tells that with the fewest."""
        self.assertTrue(second_small(middle))
        told = []
        for numbers, rows in counts:
            outcome, paper = self.made(lambda handed: boxed(handed, numbers, rows), middle, come_to=False, once=False, small=False)
            self.assertTrue(second_boxed(outcome, numbers, rows))
            self.assertIs(is_boxed(outcome, numbers, rows), True)
            for given in values:
                self.assert_alike(middle, outcome, lambda number: given if number == 0 else self.some(middle, number), bounds)
            told.append(outcome)
        return told[0]

    def some(self, middle, number):
        return tuple(2 if name[0] == "n" else (3, 4) for name in middle[number][2][0][0])


ALL_COUNTS = tuple((numbers, rows) for numbers in range(3, 9) for rows in range(1, 5))


class BoxedTest(BoxedCase):
    def test_one_block(self):
        middle = one_function((("n0", "n1"), (("n2", "add", ("n0", "n1")), ("n3", "pick", ("n2", "n0", 7))), ("give", ("n3",))))
        outcome = self.boxed(middle, (3, 4), (1, -1), counts=ALL_COUNTS)
        # Loads, the two rows, and what is given out of a box.
        self.assertEqual(len(outcome[0][2][0][1]), 4)

    def test_each_operation(self):
        rows = [("n2", "add", ("n0", "n1")), ("n3", "sub", ("n2", 1)), ("n4", "mul", ("n3", "n3")), ("n5", "div", ("n4", "n0")), ("n6", "rest", (9, "n1")),
                ("n7", "less", ("n6", "n5")), ("n8", "same", ("n7", "n7")), ("n9", "pick", ("n8", "n6", "n5")), ("n10", "copy", ("n9",)), ("n11", "copy", (5,)),
                ("r1", "put", ("r0", "n11", "n10")), ("r2", "many", ("n11", "n0")), ("r3", "make", ("n1", "n2", "n3", "n4", "n5", "n6", "n7", "n8")),
                ("r4", "keep", ("r3",)), ("n12", "at", ("r4", "n0")), ("n13", "size", ("r2",)), ("r5", "make", ()), ("r6", "put", ("r4", 1, "n12")),
                ("r7", "put", ("r6", "n13", "n11")), TICK, ("need", "bad", "n13"), ("need", "worse", 1)]
        middle = one_function((("n0", "n1", "r0"), tuple(rows), ("give", ("r7", "r4", "n12", "n13"))), results="rrnn")
        self.boxed(middle, (3, 4, (5, 6, 7, 8, 9, 10, 11)), (0, 0, ()), (-1, 7, (1,) * 40), counts=ALL_COUNTS)

    def test_makes(self):
        """Of up to eight names, some of them twice, and numbers between, with few boxes."""
        for operands in (("n0",), ("n0", "n1", "n2"), ("n0", "n1", "n2", "n3"), tuple(f"n{k}" for k in range(8)), ("n0", 1, "n1", 2, "n2", 3, "n3", 4),
                         ("n7", "n7", "n6", "n6", "n5", "n5", "n4", "n4"), ("n0",) * 8, (1,) * 8, ("n0", "n1", "n2", "n3", "n0", "n1", "n2", "n3")):
            middle = one_function((tuple(f"n{k}" for k in range(8)), (("r0", "make", operands), ("r1", "make", operands[::-1])), ("give", ("r0", "r1"))), results="rr")
            self.boxed(middle, tuple(range(10, 18)), counts=ALL_COUNTS)

    def test_many_living_names(self):
        names = tuple(f"n{k}" for k in range(40)) + tuple(f"r{k}" for k in range(10))
        sums = tuple((f"n{50 + k}", "add", (f"n{50 + k - 1}" if k else 0, f"n{k}")) for k in range(40))
        puts = tuple((f"r{20 + k}", "put", (f"r{k}", 0, f"n{50 + k}")) for k in range(10))
        middle = one_function((names, (), ("go", 1, ())), ((), sums[:30], ("go", 2, ())), ((), sums[30:] + puts, ("go", 3, ())),
                              ((), (("need", "bad", "n89"),), ("give", ("n89", "n60", "r29", "r0"))), results="nnrr")
        self.boxed(middle, tuple(range(40)) + tuple((k,) for k in range(10)), (0,) * 40 + ((),) * 10)

    def test_params_laid_crosswise(self):
        for args in (("n1", "n2", "n3"), ("n2", "n1", "n3"), ("n3", "n1", "n2"), ("n2", "n3", "n1"), ("n2", "n2", "n2"), ("n1", "n1", "n2"),
                     ("n5", "n1", "n2"), ("n2", "n5", 7), (1, 2, 3), ("n0", "n0", "n1"), ("n4", "n5", "n5"), ("n3", "n2", "n1")):
            for way in (("go", 1, args), ("fork", "n5", 1, args, 2, ()), ("fork", "n5", 2, (), 1, args), ("fork", "n5", 1, args, 1, args[::-1])):
                middle = one_function(
                    (("n0", "n4"), (), ("go", 1, (1, 2, 3))),
                    (("n1", "n2", "n3"), (("n9", "mul", ("n1", 100)), ("n10", "mul", ("n2", 10)), ("n11", "add", ("n9", "n10")), ("n12", "add", ("n11", "n3")), TICK,
                                          ("n13", "same", ("n12", "n4")), ("n5", "sub", ("n0", "n12"))), ("fork", "n13", 2, (), 3, ())),
                    ((), (), ("give", ("n12",))), ((), (), way))
                self.boxed(middle, (0, 123), (0, 312), (321, 0), bounds=(1, 2, 4), counts=((3, 1), (8, 4)))
        rows = one_function((("r0", "r1"), (), ("go", 1, ("r0", "r1", 5))), (("r2", "r3", "n0"), (TICK, ("n1", "sub", ("n0", 1))), ("fork", "n1", 1, ("r3", "r2", "n1"), 2, ())),
                            ((), (), ("give", ("r2", "r3"))), results="rr")
        self.boxed(rows, ((1,), (2, 3)), bounds=(0, 9))

    def test_params_nobody_reads(self):
        middle = one_function((("n0", "r0"), (), ("go", 1, ("n0", "r0", 3))), (("n1", "r1", "n2"), (TICK,), ("fork", "n2", 1, (5, "r0", 0), 2, ("n1",))),
                              (("n3",), (), ("give", ("n0",))))
        self.boxed(middle, (3, (4,)))

    def test_calls(self):
        """Of itself in loops, with results and more, args that what is more is laid over."""
        middle = (("f", "nr", (
            (("n0", "r0"), (("n9", "copy", (4,)),), ("go", 1, ("n0", "n9", "r0"))),
            (("n1", "n2", "r1"), (("n3", "sub", ("n1", 1)), ("n4", "less", (0, "n1"))), ("fork", "n4", 2, (), 3, ())),
            ((), (), ("call", 0, ("n3", "r1"), 4, ("n2", "n1", "r1"))),
            ((), (), ("give", ("n2", "r1"))),
            (("n5", "r2", "n6", "n7", "r3"), (("n8", "add", ("n5", "n6")), ("n10", "size", ("r2",))), ("fork", "n10", 1, ("n3", "n8", "r3"), 3, ())))),
            ("g", "", ((("n0", "n1"), (), ("call", 1, ("n1", "n0"), 1, ())), ((), (), ("give", ())))),
            ("h", "nn", ((("n0", "n1"), (), ("go", 1, ("n0", "n1"))), (("n2", "n3"), (("n4", "sub", ("n2", 1)),), ("fork", "n2", 2, (), 3, ())),
                         ((), (), ("call", 2, ("n4", "n3"), 4, ("n4",))), ((), (), ("give", ("n3", "n2"))), (("n5", "n6", "n7"), (), ("go", 1, ("n7", "n5"))))))
        self.boxed(middle, (3, (5, 6)), (2, ()), (0, (1,)), bounds=range(0, 20, 3))
        # A waiting block whose later params are the args: what is more is laid over what is still to be read.
        over = (("f", "nn", (
            (("n0",), (), ("go", 1, (0, "n0", 7))),
            (("n1", "n2", "n3"), (("n4", "sub", ("n2", 1)),), ("fork", "n2", 2, (), 3, ())),
            ((), (), ("call", 1, ("n2", "n3", "n1"), 1, ("n4", "n2"))),
            ((), (), ("give", ("n1", "n3"))))),
            ("g", "n", ((("n0", "n1", "n2"), (("n3", "mul", ("n0", "n1")), ("n4", "add", ("n3", "n2"))), ("give", ("n4",))),)))
        self.boxed(over, (3,), (0,), (5,), counts=ALL_COUNTS, bounds=(2, 3, 9))

    def test_results_into_a_block_that_is_come_to_otherwise(self):
        """By calls of unlike functions, with one result and two, and by a go."""
        middle = (("f", "n", (
            (("n0",), (), ("fork", "n0", 1, (), 2, ())), ((), (("n9", "less", ("n0", 5)),), ("fork", "n9", 3, (), 4, ())), ((), (), ("go", 5, (1, 2, "n0"))),
            ((), (), ("call", 1, ("n0",), 5, (3, "n0"))), ((), (), ("call", 2, ("n0",), 5, (8,))),
            (("n1", "n2", "n3"), (("n4", "mul", ("n1", "n2")), ("n5", "sub", ("n4", "n3"))), ("give", ("n5",))))),
            ("g", "n", ((("n0",), (("n1", "mul", ("n0", 3)),), ("give", ("n1",))),)), ("h", "nn", ((("n0",), (), ("give", ("n0", 9))),)))
        self.boxed(middle, (0,), (3,), (7,), counts=ALL_COUNTS)

    def test_blocks_that_are_not_come_to(self):
        middle = one_function((("n0",), (), ("go", 2, ("n0",))), ((), (("n1", "copy", ("n9",)),), ("go", 2, ("n1",))), (("n2",), (), ("give", ("n2",))))
        self.boxed(middle, (3,))

    def test_names_at_their_bounds(self):
        middle = one_function((("n99999", "n0"), (("n99998", "add", ("n99999", "n0")), ("r99999", "make", ("n99998",))), ("go", 1, ("n99998", "r99999"))),
                              (("n99997", "r99998"), (("n1", "at", ("r99998", 0)), ("n2", "add", ("n1", "n99997"))), ("give", ("n2",))))
        self.boxed(middle, (3, 4))

    def test_rows_nobody_reads(self):
        middle = one_function((("n0",), (("n1", "add", ("n0", 1)), ("n2", "mul", ("n1", "n1")), TICK), ("go", 1, ())),
                              ((), (("n3", "add", ("n2", 1)),), ("give", ("n0",))))
        outcome = self.boxed(middle, (3,))
        self.assertEqual([rows for params, rows, end in outcome[0][2]], [(TICK,), ()])


class SizesTest(BoxedCase):
    def test_told_counts(self):
        values = tuple(range(58)) + ((1, 2), (3,))
        self.boxed(once(full_middle())[0], values, counts=((3, 1), (8, 4)), bounds=(0, 7))

    def test_sixty_params_on_both_ways_of_forks(self):
        """Forty blocks, in each forty makes of eight unlike names, and sixty params laid crosswise on each way."""
        params = [tuple(f"n{60 * b + k}" for k in range(60)) for b in range(40)]
        blocks = []
        for b in range(40):
            own = params[b]
            makes = tuple((f"r{40 * b + j}", "make", tuple(own[(8 * j + 7 * i) % 60] for i in range(8))) for j in range(40))
            crossed = tuple(own[(k + 1) % 60] for k in range(60))
            end = ("fork", own[0], b + 1, own[::-1], 1 + b // 2, crossed) if b < 39 else ("give", (f"r{40 * b}",))
            blocks.append((own, makes + (TICK,) * 20, end))
        middle = one_function(*blocks, results="r")
        outcome, paper = boxed(middle, 3, 1)
        right_middle(outcome)
        self.assertTrue(second_boxed(outcome, 3, 1))
        self.assert_let_by(middle, outcome, paper)
        self.assert_alike(middle, outcome, lambda number: tuple(range(60)), bounds=(0, 100))


class DrawnTest(BoxedCase):
    def test_by_chance(self):
        for seed in range(150):
            maker, middle = drawn_once(seed, rows=(6, 12)[seed % 2], names=(4, 9)[seed % 2])
            counts = (3 + seed % 6, 1 + seed // 6 % 4)
            outcome = self.boxed(middle, counts=(counts,))
            self.assert_alike(middle, outcome, lambda number: maker.values(middle, number))

    def test_loops_by_chance(self):
        for seed in range(60):
            maker = LoopMaker(seed, deep=1 + seed % 3, rows=(3, 7)[seed % 2])
            middle = maker.middle()
            if second_small(middle):
                self.boxed(middle, maker.values(), counts=((3, 1), (4, 2)), bounds=(0, 3, 9))


if __name__ == "__main__":
    unittest.main()
