"""Point 38: folded middles."""

import unittest

from making import TICK, MadeCase, drawn_once, full_middle, one_function
from promises import unfolded

from samepaper.folding import folded
from samepaper.once import once


class FoldedCase(MadeCase):
    def folded_right(self, middle, *values):
        """The first function's blocks of a folded outcome, asked for all that is promised of it, and the paper."""
        outcome, paper = self.made(folded, middle)
        self.assertIsNone(unfolded(outcome))
        for told in values:
            self.assert_alike(middle, outcome, lambda number: told[:len(middle[number][2][0][0])])
        return outcome[0][2], paper


class FoldedTest(FoldedCase):
    def test_rows_of_plain_numbers(self):
        for op, operands in (("add", (1, 2)), ("div", (7, 0)), ("pick", (0, 1, 2)), ("same", (3, 3)), ("rest", (-7, 2)),
                             ("less", (1, 2)), ("mul", (-32768, -1)), ("sub", (5, 9)), ("copy", (4,))):
            middle = one_function((("n0",), (("n1", op, operands), ("n2", "add", ("n1", "n0"))), ("give", ("n2",))))
            blocks, paper = self.folded_right(middle, (3,))
            self.assertEqual(len(blocks[0][1]), 1)

    def test_rows_of_rows(self):
        """A row that gives a row is made of plain numbers still, and what it tells is not reckoned."""
        middle = one_function(((), (("r0", "make", (1, 2)), ("n0", "size", ("r0",)), ("r1", "many", (2, 3)),
                                    ("n1", "at", ("r1", "n0"))), ("give", ("n1",))))
        self.folded_right(middle, ())

    def test_numbers_through_rows_and_blocks(self):
        middle = one_function(
            (("n0",), (("n1", "copy", (3,)),), ("go", 1, ("n1", "n0"))),
            (("n2", "n3"), (("n4", "add", ("n2", "n1")), ("n5", "less", ("n4", 7))), ("fork", "n5", 2, (), 3, ())),
            ((), (("n6", "mul", ("n4", "n3")),), ("give", ("n6",))),
            ((), (TICK,), ("give", (9,))))
        blocks, paper = self.folded_right(middle, (3,), (0,))
        self.assertEqual(len(blocks), 3)
        self.assertNotIn((TICK,), [rows for params, rows, end in blocks])

    def test_needs(self):
        middle = one_function((("n0",), (("n1", "copy", (0,)), ("need", "a", 5), ("need", "b", "n0"), ("need", "c", "n1"), TICK),
                               ("give", ("n0",))))
        blocks, paper = self.folded_right(middle, (0,), (1,))
        self.assertEqual([row for row in blocks[0][1] if row[0] == "need"], [("need", "b", "n0"), ("need", "c", 0)])

    def test_forks(self):
        for number, given in ((0, 2), (1, 1), (-5, 1)):
            middle = one_function(((), (), ("fork", number, 1, (), 2, ())), ((), (), ("give", (1,))), ((), (), ("give", (2,))))
            blocks, paper = self.folded_right(middle, ())
            self.assertEqual(blocks[-1][2], ("give", (given,)))
            self.assertEqual(len(blocks), 2)

    def test_copies(self):
        middle = one_function((("n0", "r0"), (("n1", "copy", ("n0",)), ("r1", "keep", ("r0",)), ("n2", "copy", ("n1",)),
                                              ("n3", "at", ("r1", "n2"))), ("go", 1, ("n2", "n3"))),
                              (("n4", "n5"), (("n6", "add", ("n4", "n1")), ("n7", "add", ("n5", "n6"))), ("give", ("n7",))))
        self.folded_right(middle, (1, (3, 4)))


class ParamsTest(FoldedCase):
    def test_one_name_laid_by_each_end(self):
        middle = one_function(
            (("n0", "n1"), (), ("fork", "n0", 1, ("n1", 5, "n0"), 2, ("n1",))),
            (("n2", "n3", "n4"), (("n5", "add", ("n2", "n3")), ("n6", "add", ("n5", "n4"))), ("give", ("n6",))),
            (("n7",), (), ("go", 1, ("n7", 5, 2))))
        blocks, paper = self.folded_right(middle, (0, 7), (1, 7))
        self.assertEqual([params for params, rows, end in blocks], [("n0", "n1"), ("n4",), ()])

    def test_the_param_itself(self):
        middle = one_function(
            (("n0", "n1"), (), ("go", 1, ("n0", "n1"))),
            (("n2", "n3"), (TICK, ("n4", "sub", ("n2", 1))), ("fork", "n4", 1, ("n4", "n3"), 2, ("n3",))),
            (("n5",), (), ("give", ("n5",))))
        blocks, paper = self.folded_right(middle, (1, 7), (3, 7))
        self.assertEqual([params for params, rows, end in blocks], [("n0", "n1"), ("n2",), ()])
        self.assertEqual(blocks[2][2], ("give", ("n1",)))

    def test_params_that_are_laid_into_one_another(self):
        middle = one_function(
            (("n0", "n1"), (), ("go", 1, ("n0", "n0", "n1"))),
            (("n2", "n3", "n4"), (TICK, ("n5", "sub", ("n4", 1))), ("fork", "n5", 2, ("n2",), 3, ())),
            (("n6",), (), ("go", 1, ("n6", "n2", "n5"))),
            ((), (("n7", "sub", ("n3", "n2")),), ("give", ("n7",))))
        self.folded_right(middle, (5, 1), (5, 3))

    def test_results_of_calls(self):
        middle = (
            ("f", "n", (
                (("n0",), (), ("fork", "n0", 1, (), 2, (7, "n0"))),
                ((), (), ("call", 1, ("n0",), 2, ("n0",))),
                (("n1", "n2"), (("n3", "add", ("n1", "n2")),), ("call", 1, (4,), 3, ("n2", "n3"))),
                (("n4", "n5", "n6"), (("n7", "add", ("n4", "n5")), ("n8", "add", ("n6", "n7"))), ("give", ("n8",))),
            )),
            ("g", "n", ((("n0",), (), ("give", (7,))),)),
        )
        blocks, paper = self.folded_right(middle, (0,), (3,))
        # What is given by a call stays, though one and the same number may be laid there; what is more is gone.
        self.assertEqual([params for params, rows, end in blocks], [("n0",), (), ("n1",), ("n4",)])

    def test_block_0_keeps_its_params(self):
        middle = (("f", "n", (((), (), ("call", 1, (5,), 1, ())), (("n0",), (), ("give", ("n0",))))),
                  ("g", "n", ((("n0",), (), ("give", ("n0",))),)))
        outcome, paper = self.made(folded, middle)
        self.assertEqual(outcome, middle)

    def test_both_ways_to_one_block(self):
        middle = one_function((("n0", "n1"), (), ("fork", "n0", 1, ("n1", 1), 1, ("n1", 2))),
                              (("n2", "n3"), (("n4", "add", ("n2", "n3")),), ("give", ("n4",))))
        blocks, paper = self.folded_right(middle, (0, 7), (1, 7))
        self.assertEqual(blocks[1][0], ("n3",))


class GoneWaysTest(FoldedCase):
    """What alone is laid into a param may not be given for sure there in the handed middle."""

    MIDDLE = one_function(
        (("n0",), (), ("fork", 1, 1, (), 2, ())),
        ((), (("n1", "add", ("n0", 1)),), ("go", 3, ("n1",))),
        # This way is gone; on it n1 is not given.
        ((), (), ("go", 3, (8,))),
        (("n2",), (TICK,), ("go", 4, ("n2",))),
        (("n3",), (("n4", "mul", ("n3", 2)),), ("give", ("n4",))))

    def test_held_by_the_param_that_is_gone(self):
        blocks, paper = self.folded_right(self.MIDDLE, (3,))
        self.assertEqual([params for params, rows, end in blocks], [("n0",), (), (), ()])
        self.assertEqual(dict(paper[0][2][2]), {"n1": (0, "n2")})
        self.assertEqual(dict(paper[0][3][2]), {"n1": (0, "n3")})

    def test_two_params_that_are_gone(self):
        middle = one_function(
            (("n0",), (("n9", "copy", (0,)),), ("fork", "n9", 2, (), 1, ())),
            ((), (("n1", "add", ("n0", 1)),), ("go", 3, ("n1", "n1"))),
            ((), (), ("go", 3, (8, 9))),
            (("n2", "n3"), (TICK, ("n4", "sub", ("n2", "n3"))), ("fork", "n0", 4, ("n4",), 4, ("n3",))),
            (("n5",), (("n6", "add", ("n5", "n2")),), ("give", ("n6",))))
        self.folded_right(middle, (3,), (0,))

    def test_names_wanted_on_gone_ways_alone(self):
        middle = one_function(
            (("n0",), (("n1", "add", ("n0", 5)),), ("go", 1, ("n1", 3))),
            (("n2", "n3"), (TICK,), ("fork", 0, 2, (), 3, ())),
            ((), (("n4", "add", ("n2", "n3")),), ("give", ("n4",))),
            ((), (), ("fork", "n0", 1, ("n2", "n3"), 4, ())),
            ((), (), ("give", ("n0",))))
        blocks, paper = self.folded_right(middle, (3,), (0,))
        self.assertEqual(len(blocks), 4)

    def test_a_loop_that_is_come_to_no_more(self):
        middle = one_function(
            (("n0",), (), ("fork", 0, 1, ("n0",), 2, ())),
            (("n1",), (TICK, ("n2", "copy", ("n1",))), ("fork", "n2", 1, ("n2",), 2, ())),
            ((), (), ("give", ("n0",))))
        blocks, paper = self.folded_right(middle, (3,), (0,))
        self.assertEqual(len(blocks), 2)

    def test_forks_decided_one_after_the_other(self):
        middle = one_function(
            (("n0",), (), ("go", 5, (1,))),
            (("n1",), (), ("fork", "n1", 2, (0,), 3, (1,))),
            (("n2",), (), ("fork", "n2", 3, ("n0",), 4, (6,))),
            (("n3",), (), ("give", ("n3",))),
            (("n4",), (("n5", "add", ("n4", 1)),), ("fork", "n5", 6, ("n5",), 3, ("n5",))),
            (("n6",), (), ("go", 1, ("n6",))),
            (("n7",), (), ("give", ("n7",))))
        blocks, paper = self.folded_right(middle, (3,))
        self.assertEqual(blocks[-1][2], ("give", (7,)))
        self.assertEqual(len(blocks), 6)


class DrawnTest(FoldedCase):
    def test_blocks_that_are_not_come_to(self):
        middle = one_function((("n0",), (), ("go", 2, (4,))), ((), (("n1", "add", (1, 2)),), ("go", 2, ("n9",))),
                              (("n2",), (), ("give", ("n2",))))
        blocks, paper = self.folded_right(middle, (3,))
        self.assertEqual(blocks, ((("n0",), (), ("go", 1, ())), ((), (), ("give", (4,)))))

    def test_told_counts(self):
        middle = once(full_middle())[0]
        self.folded_right(middle, tuple(range(58)) + ((1, 2), (3,)))

    def test_by_chance(self):
        fewer = 0
        for seed in range(300):
            maker, middle = drawn_once(seed)
            outcome, paper = self.made(folded, middle)
            self.assertIsNone(unfolded(outcome))
            self.assert_alike(middle, outcome, lambda number: maker.values(middle, number))
            fewer += any(len(told[2]) < len(function[2]) for told, function in zip(outcome, middle))
        self.assertGreater(fewer, 50)


if __name__ == "__main__":
    unittest.main()
