"""Points 5 and 6: numbers, rows and operations."""

import itertools
import unittest

from samepaper.numbers import done, kinds_of, taken_in

LOW, HIGH = -32768, 32767
EDGES = (LOW, LOW + 1, -32767 // 2, -7, -2, -1, 0, 1, 2, 3, 7, 255, 256, HIGH - 1, HIGH)
KINDS = {
    "add": ("n", "nn"), "sub": ("n", "nn"), "mul": ("n", "nn"), "div": ("n", "nn"),
    "rest": ("n", "nn"), "less": ("n", "nn"), "same": ("n", "nn"), "pick": ("n", "nnn"),
    "copy": ("n", "n"), "at": ("n", "rn"), "size": ("n", "r"), "put": ("r", "rnn"),
    "many": ("r", "nn"), "make": ("r", None), "keep": ("r", "r"),
}


def slowly_taken_in(whole):
    """By the words of point 5: the one number among those that differ by a multiple of 65536."""
    away = whole % 65536
    return away - 65536 if away > HIGH else away


class TakenInTest(unittest.TestCase):
    def test_numbers_are_themselves(self):
        for whole in range(LOW, HIGH + 1):
            self.assertEqual(taken_in(whole), whole)

    def test_told_ones(self):
        for whole, number in [
            (32768, -32768), (32769, -32767), (-32769, 32767), (-32770, 32766), (65535, -1),
            (65536, 0), (65537, 1), (-65535, 1), (-65536, 0), (-65537, -1),
            (98303, 32767), (98304, -32768), (-98304, -32768), (-98305, 32767),
            (65536 * 10 ** 30, 0), (65536 * 10 ** 30 - 1, -1), (-65536 * 10 ** 30 + 5, 5),
            (10 ** 400, slowly_taken_in(10 ** 400)),
        ]:
            self.assertEqual(taken_in(whole), number, whole)

    def test_near_multiples_on_both_sides(self):
        for middle in (32768, 65536, 3 * 32768, 7 * 65536, 32768 * 10 ** 9, 65536 * 10 ** 20):
            for sign, near in itertools.product((1, -1), range(-3, 4)):
                whole = sign * middle + near
                self.assertEqual(taken_in(whole), slowly_taken_in(whole))


class KindsOfTest(unittest.TestCase):
    def test_each_operation(self):
        for op, kinds in KINDS.items():
            told = kinds_of(op)
            self.assertEqual(told, kinds)
            self.assertIs(type(told), tuple)

    def test_other_texts(self):
        others = ["", " ", "n", "r", "ad", "addd", "Add", "add ", " add", "and", "or", "not", "call", "new",
                  "num", "row", "let", "set", "give", "need", "tick", "of", "put.", "0", "make 2", "get"]
        for op in others:
            self.assertIsNone(kinds_of(op))


class NumbersDoneTest(unittest.TestCase):
    def assert_done(self, op, values, value):
        self.assertEqual(done(op, values), value, (op, values))

    def test_all_of_two_at_the_edges(self):
        for one, other in itertools.product(EDGES, EDGES):
            pair = (one, other)
            self.assert_done("add", pair, slowly_taken_in(one + other))
            self.assert_done("sub", pair, slowly_taken_in(one - other))
            self.assert_done("mul", pair, slowly_taken_in(one * other))
            self.assert_done("less", pair, int(one < other))
            self.assert_done("same", pair, int(one == other))

    def test_results_beyond_the_bounds(self):
        self.assert_done("add", (HIGH, 1), LOW)
        self.assert_done("sub", (LOW, 1), HIGH)
        self.assert_done("mul", (256, 256), 0)
        self.assert_done("mul", (LOW, LOW), 0)
        self.assert_done("mul", (HIGH, HIGH), 1)
        self.assert_done("mul", (LOW, -1), LOW)

    def test_div_and_rest(self):
        for values, quotient, rest in [
            ((7, 2), 3, 1), ((-7, 2), -4, 1), ((7, -2), -4, -1), ((-7, -2), 3, -1), ((6, 3), 2, 0), ((-6, 3), -2, 0),
            ((0, 5), 0, 0), ((1, HIGH), 0, 1), ((-1, HIGH), -1, HIGH - 1), ((1, LOW), -1, LOW + 1),
            ((LOW, -1), LOW, 0), ((LOW, 1), LOW, 0), ((HIGH, -1), -HIGH, 0), ((LOW, LOW), 1, 0),
            ((5, 0), 0, 5), ((-5, 0), 0, -5), ((0, 0), 0, 0), ((LOW, 0), 0, LOW),
        ]:
            self.assert_done("div", values, quotient)
            self.assert_done("rest", values, rest)

    def test_div_is_the_greatest_not_above(self):
        for one, other in itertools.product(EDGES, EDGES):
            if other == 0 or (one, other) == (LOW, -1):
                continue
            quotient = done("div", (one, other))
            self.assertLessEqual(quotient * other * (1 if other > 0 else -1), one * (1 if other > 0 else -1))
            self.assertGreater((quotient + 1) * abs(other), one * (1 if other > 0 else -1))
            self.assertEqual(done("rest", (one, other)), one - other * quotient)

    def test_pick_and_copy(self):
        self.assert_done("pick", (1, 5, 6), 5)
        self.assert_done("pick", (-1, 5, 6), 5)
        self.assert_done("pick", (LOW, 5, 6), 5)
        self.assert_done("pick", (0, 5, 6), 6)
        for number in EDGES:
            self.assert_done("copy", (number,), number)

    def test_told_numbers_are_no_truths(self):
        for op in ("less", "same"):
            for pair in ((1, 1), (1, 2), (2, 1)):
                self.assertIs(type(done(op, pair)), int)


class RowsDoneTest(unittest.TestCase):
    def assert_row(self, op, values, row):
        told = done(op, values)
        self.assertEqual(told, row, (op, values))
        self.assertIs(type(told), tuple)

    def test_at_and_size(self):
        row = (4, 5, 6)
        for place, number in [(0, 4), (1, 5), (2, 6), (3, 0), (4, 0), (HIGH, 0), (-1, 0), (-3, 0), (-4, 0), (LOW, 0)]:
            self.assertEqual(done("at", (row, place)), number)
        self.assertEqual(done("at", ((), 0)), 0)
        self.assertEqual(done("size", ((),)), 0)
        self.assertEqual(done("size", (row,)), 3)
        self.assertEqual(done("size", ((1,) * 40,)), 40)

    def test_put(self):
        row = (4, 5, 6)
        for place, told in [(0, (9, 5, 6)), (1, (4, 9, 6)), (2, (4, 5, 9)), (3, row), (40, row), (HIGH, row),
                            (-1, row), (-3, row), (LOW, row)]:
            self.assert_row("put", (row, place, 9), told)
        self.assertEqual(row, (4, 5, 6))
        self.assert_row("put", ((), 0, 9), ())

    def test_many(self):
        for many, told in [(LOW, 0), (-1, 0), (0, 0), (1, 1), (39, 39), (40, 40), (41, 40), (HIGH, 40)]:
            self.assert_row("many", (many, -3), (-3,) * told)

    def test_make_and_keep(self):
        for many in range(9):
            self.assert_row("make", tuple(range(many)), tuple(range(many)))
        self.assert_row("keep", ((1, 2),), (1, 2))
        self.assert_row("keep", ((),), ())


if __name__ == "__main__":
    unittest.main()
