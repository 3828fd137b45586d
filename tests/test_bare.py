"""Point 38: bare middles."""

import unittest

from making import TICK, MadeCase, drawn_once, full_middle, one_function
from promises import unbare

from samepaper.bare import bare
from samepaper.folding import folded
from samepaper.once import once


class BareTest(MadeCase):
    def bare_right(self, middle, *values):
        """The first function's blocks of a bare outcome, asked for all that is promised of it."""
        outcome, paper = self.made(bare, middle)
        self.assertIsNone(unbare(outcome))
        for told in values:
            self.assert_alike(middle, outcome, lambda number: told[:len(middle[number][2][0][0])])
        return outcome[0][2]

    def test_rows_that_nobody_reads(self):
        middle = one_function((("n0", "n1"), (("n2", "add", ("n0", "n1")), ("n3", "mul", ("n2", "n2")), ("n4", "div", ("n0", 0)),
                                              TICK, ("need", "bad", "n4")), ("give", ("n0",))))
        blocks = self.bare_right(middle, (3, 4))
        self.assertEqual(blocks[0][1], (("n4", "div", ("n0", 0)), TICK, ("need", "bad", "n4")))

    def test_what_events_read(self):
        middle = (
            ("f", "nr", (
                (("n0",), (("n1", "add", ("n0", 1)), ("n2", "add", ("n0", 2)), ("n3", "add", ("n0", 3)), ("n4", "add", ("n0", 4)),
                           ("r0", "make", ("n4",)), ("n5", "add", ("n0", 5)), ("need", "bad", "n1")), ("fork", "n2", 1, (), 2, ())),
                ((), (), ("call", 0, ("n3",), 3, ())),
                ((), (), ("give", ("n4", "r0"))),
                (("n6", "r1"), (), ("go", 2, ())),
            )),
        )
        blocks = self.bare_right(middle, (3,))
        self.assertEqual([row[0] for row in blocks[0][1]], ["n1", "n2", "n3", "n4", "r0", "need"])
        # Params that take results stay, though nobody reads them.
        self.assertEqual(blocks[3][0], ("n6", "r1"))

    def test_rings_that_read_themselves(self):
        middle = one_function(
            (("n0",), (), ("go", 1, ("n0", 0, 1))),
            (("n1", "n2", "n3"), (TICK, ("n4", "sub", ("n1", 1)), ("n5", "add", ("n2", "n3")), ("n6", "mul", ("n5", "n1"))),
             ("fork", "n4", 1, ("n4", "n5", "n6"), 2, ())),
            ((), (), ("give", ("n0",))))
        blocks = self.bare_right(middle, (1,), (4,))
        self.assertEqual(blocks[1], (("n1",), (TICK, ("n4", "sub", ("n1", 1))), ("fork", "n4", 1, ("n4",), 2, ())))

    def test_what_is_laid_into_a_param_that_takes_results(self):
        middle = (
            ("f", "n", (
                (("n0",), (("n1", "add", ("n0", 1)), ("n2", "add", ("n0", 2)), ("n3", "add", ("n0", 3))),
                 ("fork", "n0", 1, (), 2, ("n1", "n2"))),
                ((), (), ("call", 1, (), 2, ("n3",))),
                (("n4", "n5"), (), ("give", (7,))),
            )),
            ("g", "n", (((), (), ("give", (1,))),)),
        )
        blocks = self.bare_right(middle, (0,), (1,))
        self.assertEqual(blocks, (
            (("n0",), (("n1", "add", ("n0", 1)),), ("fork", "n0", 1, (), 2, ("n1",))),
            ((), (), ("call", 1, (), 2, ())),
            (("n4",), (), ("give", (7,)))))

    def test_what_more_is_laid_is_read_where_its_param_is(self):
        middle = (
            ("f", "n", (
                (("n0",), (("n1", "add", ("n0", 1)), ("n2", "add", ("n0", 2))), ("call", 1, (), 1, ("n1", "n2"))),
                (("n3", "n4", "n5"), (), ("give", ("n5",))),
            )),
            ("g", "n", (((), (), ("give", (1,))),)),
        )
        blocks = self.bare_right(middle, (0,), (1,))
        self.assertEqual(blocks, ((("n0",), (("n2", "add", ("n0", 2)),), ("call", 1, (), 1, ("n2",))),
                                  (("n3", "n5"), (), ("give", ("n5",)))))

    def test_block_0_keeps_its_params(self):
        middle = one_function((("n0", "r0", "n1"), (), ("give", ("n1",))))
        self.assertEqual(self.bare_right(middle, (1, (), 2)), middle[0][2])

    def test_ticks_and_forks_stay(self):
        middle = one_function((("n0",), (TICK,), ("fork", "n0", 1, ("n0",), 1, (2,))), (("n1",), (TICK,), ("give", (5,))))
        blocks = self.bare_right(middle, (0,), (1,))
        self.assertEqual(blocks, ((("n0",), (TICK,), ("fork", "n0", 1, (), 1, ())), ((), (TICK,), ("give", (5,)))))

    def test_blocks_that_are_not_come_to(self):
        """What they read is not read; what they call lays no results."""
        middle = one_function(
            (("n0",), (("n1", "copy", (1,)), ("n2", "copy", (2,))), ("go", 2, ("n2",))),
            ((), (("need", "bad", "n1"),), ("call", 0, ("n1",), 2, ())),
            (("n3",), (), ("give", ("n0",))))
        self.assertEqual(self.bare_right(middle, (1,)), ((("n0",), (), ("go", 1, ())), ((), (), ("give", ("n0",)))))

    def test_told_counts(self):
        values = tuple(range(58)) + ((1, 2), (3,))
        for middle in (once(full_middle())[0], folded(once(full_middle())[0])[0]):
            self.bare_right(middle, values)

    def test_by_chance(self):
        fewer = 0
        for seed in range(300):
            maker, middle = drawn_once(seed)
            outcome, paper = self.made(bare, middle)
            self.assertIsNone(unbare(outcome))
            self.assert_alike(middle, outcome, lambda number: maker.values(middle, number))
            fewer += len(outcome[0][2][0][1]) < len(middle[0][2][0][1])
        self.assertGreater(fewer, 100)


if __name__ == "__main__":
    unittest.main()
