"""Points 36 and 44: the names that live at each block's begin."""

import copy
import unittest

from looping import LoopMaker
from making import TICK, drawn, full_middle
from middles import MiddleMaker
from papering import RightMaker
from promises import second_lives

from samepaper.lives import lives_of


class LivesTest(unittest.TestCase):
    def assert_lives(self, told, *blocks, results="n"):
        function = ("f", results, blocks)
        kept = copy.deepcopy(function)
        lives = lives_of(function)
        self.assertEqual(lives, tuple(tuple(names.split()) for names in told))
        self.assertEqual([set(names) for names in lives], second_lives(function))
        self.assertEqual(function, kept)
        self.assertIs(type(lives), tuple)
        self.assertTrue(all(type(names) is tuple for names in lives))

    def test_one_block(self):
        self.assert_lives([""], ((), (), ("give", (1,))))
        self.assert_lives([""], (("n0",), (), ("give", ("n0",))))
        # One that is read and not given: such a function is not right, but the name lives.
        self.assert_lives(["n1"], ((), (), ("give", ("n1",))))

    def test_rows_and_needs(self):
        rows = (("n1", "add", ("n2", 3)), ("need", "bad", "n3"), TICK, ("r1", "put", ("r0", "n1", "n4")), ("n3", "copy", ("n5",)), ("n6", "copy", ("n3",)))
        self.assert_lives(["n2 n3 n4 n5 r0"], ((), rows, ("give", (1,))))
        self.assert_lives(["n3 n5"], (("n2", "n4", "r0", "n9"), rows, ("give", (1,))))

    def test_given_ahead_of_being_read(self):
        self.assert_lives(["", ""], ((), (("n0", "copy", (1,)),), ("go", 1, ("n0",))), (("n1",), (("n0", "copy", ("n1",)),), ("give", ("n0",))))
        # Read ahead of being given, in the very row.
        self.assert_lives(["", "n0"], ((), (("n0", "copy", (1,)),), ("go", 1, ())), ((), (("n0", "add", ("n0", 1)),), ("give", ("n0",))))

    def test_go_and_fork(self):
        self.assert_lives(["n0", "n1 n2 n3", "n3", ""], ((), (("n1", "copy", ("n0",)), ("n2", "copy", (1,)), ("n3", "copy", (2,))), ("go", 1, ())),
                          ((), (), ("fork", "n1", 2, ("n2", 5), 3, ("n2",))), (("n4", "n5"), (), ("give", ("n3",))), (("n3",), (), ("give", ("n3",))))

    def test_own_params_are_left_out(self):
        """Also where they are laid into themselves, or read in blocks behind."""
        self.assert_lives(["", "n9", "n1 n9", "n1"], (("n9",), (), ("go", 1, (5,))), (("n1",), (TICK,), ("fork", "n1", 1, ("n1",), 2, ())),
                          ((), (TICK,), ("fork", "n9", 1, (1,), 3, ())), ((), (), ("give", ("n1",))))

    def test_calls(self):
        """A call reads its args and its more; its results are the block's params."""
        self.assert_lives(["", "n0 n1 n2", "n2"], (("n0", "n1", "n2"), (), ("go", 1, ())), ((), (), ("call", 0, ("n0", 1, 2), 2, ("n1",))),
                          (("n3", "n4"), (), ("give", ("n2",))))

    def test_rings(self):
        self.assert_lives(["", "n0 n1", "n0 n1", "n1"], (("n0", "n1"), (), ("go", 1, ())), ((), (TICK,), ("fork", "n0", 2, (), 3, ())),
                          ((), (("n0", "sub", ("n0", "n1")),), ("go", 1, ())), ((), (), ("give", ("n1",))))
        # A name that is read nowhere but where it is given anew each time.
        self.assert_lives(["", "n0", "n0"], (("n0",), (), ("go", 1, ())), ((), (TICK, ("n1", "copy", ("n0",))), ("fork", "n1", 1, (), 2, ())),
                          ((), (), ("give", ("n0",))))

    def test_blocks_that_are_not_come_to(self):
        self.assert_lives(["", "n7 n8", "n8", ""], (("n0",), (), ("go", 3, ())), ((), (), ("fork", "n7", 2, (), 3, ())), ((), (), ("give", ("n8",))),
                          ((), (), ("give", (1,))))

    def test_sorted_as_texts(self):
        names = tuple(f"n{k}" for k in (2, 10, 1, 20, 3, 100)) + ("r3", "r12")
        row = ("need", "bad", "n2")
        self.assert_lives(["", "n1 n10 n100 n2 n20 n3 r12 r3"], (names, (), ("go", 1, ())),
                          ((), (row,), ("give", names)), results="nnnnnnrr")

    def test_by_chance(self):
        for seed in range(200):
            for middle in (MiddleMaker(seed).middle(), RightMaker(seed, names=2 + seed % 9, blocks=12).middle(), drawn(seed)[1],
                           LoopMaker(seed).middle()):
                for function in middle:
                    self.assertEqual(lives_of(function), tuple(tuple(sorted(names)) for names in second_lives(function)))

    def test_told_counts(self):
        function = full_middle()[0]
        self.assertEqual(lives_of(function), tuple(tuple(sorted(names)) for names in second_lives(function)))


if __name__ == "__main__":
    unittest.main()
