"""Point 36: which middles are small and which functions are slight, and the names that live at a block's begin."""

import unittest

from making import TICK, drawn, full_middle, one_function
from papering import RightMaker
from promises import second_lives, second_slight, second_small

from samepaper.lives import lives_of
from samepaper.sizes import is_slight, is_small

END = ("give", (1,))


def straight(many, rows=(), params=()):
    """A function of so many blocks, one behind the other, these rows and params in the second one."""
    blocks = [((), (), ("go", b + 1, (1,) * len(params) if b == 0 else ())) for b in range(many - 1)] + [((), (), END)]
    blocks[1] = (params, rows, blocks[1][2])
    return one_function(*blocks)


def made(many, each):
    return tuple((f"r{k}", "make", (1,) * each) for k in range(many))


class SmallTest(unittest.TestCase):
    def assert_small(self, told, middle):
        self.assertIs(is_small(middle), told)
        self.assertIs(second_small(middle), told)

    def test_blocks(self):
        self.assert_small(True, straight(40))
        self.assert_small(False, straight(41))
        # Those that are not come to count, too.
        self.assert_small(False, one_function(*[((), (), END)] * 41))

    def test_rows_and_operands(self):
        for rows in ((TICK,) * 60, made(60, 0), made(60, 5), made(40, 8), made(40, 8) + (TICK,) * 20, (("need", "a", 1),) * 60):
            self.assert_small(True, straight(3, rows))
        for rows in ((TICK,) * 61, made(61, 0), made(40, 8) + (("need", "a", 1),), made(41, 8), made(60, 6)):
            self.assert_small(False, straight(3, rows))

    def test_parameters_and_living_names(self):
        def living(params, lives, reached=True):
            names = tuple(f"n{k}" for k in range(100, 100 + lives))
            row = tuple((f"r{k}", "make", names[8 * k:8 * k + 8]) for k in range(8))
            begin = tuple((name, "copy", (1,)) for name in names)
            end = ("go", 2, (1,) * params) if reached else END
            return one_function(((), begin[:60], ("go", 1, ())), ((), begin[60:], end),
                                (tuple(f"n{k}" for k in range(params)), row, END))
        for params, lives in ((60, 0), (0, 60), (30, 30), (1, 59), (59, 1)):
            self.assert_small(True, living(params, lives))
            self.assert_small(False, living(params + 1, lives))
            if lives:
                self.assert_small(False, living(params, lives + 1))
            # At a block that is not come to there may be more.
            self.assert_small(True, living(params + 1, lives, reached=False))

    def test_each_function(self):
        wide = ("g", *straight(41)[0][1:])
        self.assert_small(False, (*straight(3), wide))
        self.assert_small(True, full_middle())

    def test_by_chance(self):
        told = {True: 0, False: 0}
        for seed in range(60):
            middle = RightMaker(seed, blocks=20, rows=40 + seed % 40, names=40).middle()
            self.assert_small(second_small(middle), middle)
            told[is_small(middle)] += 1
        self.assertGreater(min(told.values()), 5, told)


class SlightTest(unittest.TestCase):
    def assert_slight(self, told, middle):
        self.assertIs(is_slight(middle[0]), told)
        self.assertIs(second_slight(middle[0]), told)

    def test_counts(self):
        self.assert_slight(True, straight(12))
        self.assert_slight(False, straight(13))
        self.assert_slight(True, straight(3, (TICK,) * 30))
        self.assert_slight(False, straight(3, (TICK,) * 31))

    def test_unlike_names(self):
        params = tuple(f"n{k}" for k in range(40))
        for many, told in ((20, True), (21, False)):
            self.assert_slight(told, straight(3, made(many, 1), params))
        # A name that is given again counts once.
        again = tuple((name, "copy", (1,)) for name in params[:10])
        self.assert_slight(True, straight(3, made(20, 1) + again, params))


class LivesTest(unittest.TestCase):
    def test_by_chance(self):
        for seed in range(100):
            maker, middle = drawn(seed)
            for function in middle:
                told = lives_of(function)
                self.assertIs(type(told), tuple)
                self.assertEqual(told, tuple(tuple(sorted(names)) for names in second_lives(function)))

    def test_a_call_reads_its_args_and_more(self):
        middle = one_function((("n0", "n1", "n2"), (), ("go", 1, ())), ((), (), ("call", 0, ("n1", 1, 1), 2, ("n0",))),
                              (("n3", "n4"), (), ("give", ("n2",))))
        self.assertEqual(lives_of(middle[0]), ((), ("n0", "n1", "n2"), ("n2",)))


if __name__ == "__main__":
    unittest.main()
