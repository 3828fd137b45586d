"""Points 17, 18 and 20: names, and right middles."""

import unittest

from middles import MiddleMaker, second_right

from samepaper.errors import NoMiddle, NoText, SameError
from samepaper.middle import kind_of, right_middle

GIVE = ("give", ())
TICK = ("tick",)


def one_block(*rows, params=("n0", "r0"), end=GIVE):
    """A middle of one function of one block."""
    return (("f", "", ((tuple(params), tuple(rows), end),)),)


def blocks_of(*blocks, results=""):
    """A middle of one function."""
    return (("f", results, tuple(blocks)),)


def empty(end=GIVE, params=()):
    return (params, (), end)


class KindOfTest(unittest.TestCase):
    def test_names(self):
        for figures in ("0", "1", "9", "10", "42", "99998", "99999"):
            self.assertEqual(kind_of("n" + figures), "n")
            self.assertEqual(kind_of("r" + figures), "r")

    def test_none(self):
        for text in ["", "n", "r", "n00", "n01", "r007", "n100000", "n99999999999", "n-1", "n+1", "n 1", " n1", "n1 ", "N1",
                     "m1", "x0", "1", "0", "nn1", "n1n", "nr", "n1.0", "n" + "1" * 5000, "need", "n1\n", "n_1", "nr1"]:
            self.assertIsNone(kind_of(text), text)


class MiddleCase(unittest.TestCase):
    def assert_right(self, middle):
        self.assertIs(right_middle(middle), True)

    def assert_refused(self, middle, *fields):
        with self.assertRaises(NoMiddle) as caught:
            right_middle(middle)
        refusal = caught.exception
        self.assertEqual((refusal.function, refusal.block, refusal.row), fields, middle)


class RightTest(MiddleCase):
    def test_the_least(self):
        self.assert_right(one_block())
        self.assert_right((("abcdefgh", "nrnr", (((), (("r0", "make", ()),), ("give", (1, "r0", 2, "r0"))),)),))

    def test_each_row(self):
        for row in [
            ("n1", "add", ("n0", 1)), ("n1", "sub", (1, 2)), ("n1", "mul", (-32768, 32767)), ("n1", "div", ("n0", 0)),
            ("n1", "rest", ("n0", "n0")), ("n1", "less", ("n0", 1)), ("n1", "same", ("n0", 1)), ("n1", "pick", ("n0", 1, 2)),
            ("n1", "copy", ("n0",)), ("n1", "copy", (7,)), ("n1", "at", ("r0", "n0")), ("n1", "at", ("r0", 3)),
            ("n1", "size", ("r0",)), ("r1", "put", ("r0", "n0", 2)), ("r1", "many", (3, "n0")), ("r1", "make", ()),
            ("r1", "make", ("n0",) * 8), ("r1", "keep", ("r0",)), ("n0", "copy", ("n0",)), ("r99999", "keep", ("r0",)),
            TICK, ("need", "bad", "n0"), ("need", "need", 0), ("need", "add", 1), ("need", "abcdefgh", -32768),
        ]:
            self.assert_right(one_block(row))

    def test_each_end(self):
        for end in [
            ("go", 1, ("n0", "r0")), ("go", 1, (5, "r0")), ("go", 2, ()), ("fork", "n0", 1, (1, "r0"), 2, ()),
            ("fork", 0, 2, (), 2, ()), ("give", ()), ("call", 0, ("n0", "r0"), 2, ()), ("call", 0, (1, "r0"), 1, ("n0", "r0")),
            ("call", 1, ("r0",), 1, ("r0",)), ("call", 1, ("r0",), 3, ()),
        ]:
            self.assert_right((
                ("f", "", (empty(end, ("n0", "r0")), empty(GIVE, ("n5", "r5")), empty(), empty(GIVE, ("n7",)))),
                ("g", "n", (empty(("give", (3,)), ("r3",)),)),
            ))

    def test_counts_just_kept(self):
        self.assert_right(tuple((word, "", (empty(),)) for word in "abcdef"))
        self.assert_right(blocks_of(*[empty() for k in range(600)]))
        self.assert_right(blocks_of(*[empty(("go", k + 1, ())) for k in range(599)], empty()))
        self.assert_right(one_block(*[("n1", "copy", (1,))] * 1200))
        self.assert_right(one_block(params=[f"n{k}" for k in range(64)]))
        self.assert_right((("f", "rrrr", (empty(("give", ("r0",) * 4), ("r0",)),)),))

    def test_names_live_on(self):
        self.assert_right(blocks_of(
            (("n0",), (("n1", "copy", (1,)),), ("go", 1, ())),
            ((), (("n2", "add", ("n0", "n1")),), ("go", 2, ("n2",))),
            (("n3",), (("need", "bad", "n2"),), GIVE),
        ))
        self.assert_right((
            ("f", "n", (
                (("n0",), (("n1", "copy", (1,)),), ("call", 0, ("n1",), 1, ("n0",))),
                (("n2", "n3"), (("n4", "add", ("n1", "n2")), ("n5", "add", ("n0", "n3"))), ("give", ("n5",))),
            )),
        ))

    def test_what_is_not_come_to_may_read_anything(self):
        self.assert_right(blocks_of(empty(), ((), (("n1", "copy", ("n7",)),), ("give", ()))))
        self.assert_right(blocks_of(empty(), ((), (), ("fork", "n9", 1, (), 2, ())), empty(("go", 1, ()))))

    def test_rings_with_ticks_and_calls(self):
        self.assert_right(blocks_of(empty(("go", 1, ())), ((), (TICK,), ("go", 1, ()))))
        self.assert_right(blocks_of(empty(("go", 1, ())), empty(("go", 2, ())), ((), (TICK,), ("go", 1, ()))))
        self.assert_right(blocks_of(empty(("go", 1, ())), empty(("go", 2, ())), empty(("call", 0, (), 1, ()))))
        self.assert_right(blocks_of(empty(("call", 0, (), 1, ())), empty(("call", 0, (), 1, ()))))
        self.assert_right(blocks_of(empty(("go", 1, ())), ((), (("n0", "copy", (1,)), TICK), ("fork", 1, 1, (), 2, ())), empty()))


class RefusedTest(MiddleCase):
    def test_how_a_refusal_is_taken(self):
        for base in (SameError, ValueError):
            with self.assertRaises(base):
                right_middle(())
        try:
            right_middle(())
        except NoText:
            self.fail("taken by another class")
        except NoMiddle:
            pass
        self.assert_right(one_block())

    def test_no_function(self):
        self.assert_refused((), 0, -1, -1)

    def test_functions(self):
        fine = ("f", "", (empty(),))
        for word in ("", "abcdefghi", "A", "a1", "f", " ", "a b", "fF"):
            self.assert_refused((fine, (word, "", (empty(),))), 1, -1, -1)
        for results in ("x", "nx", "nnnnn", "rrrrr", "N", "n r", "num"):
            self.assert_refused((fine, ("g", results, (empty(),))), 1, -1, -1)
        self.assert_refused((fine, ("g", "", ())), 1, -1, -1)
        self.assert_refused((("", "", (empty(),)), fine), 0, -1, -1)
        self.assert_refused((("f", "", ()),), 0, -1, -1)
        self.assert_refused(tuple((word, "", (empty(),)) for word in "abcdefg"), 6, -1, -1)
        self.assert_refused(tuple((word, "", (empty(),)) for word in "abcdefgh"), 6, -1, -1)
        self.assert_right(tuple((word, "", (empty(),)) for word in ("add", "need", "if", "n")))

    def test_blocks_and_params(self):
        self.assert_refused(blocks_of(*[empty() for k in range(601)]), 0, 600, -1)
        self.assert_refused(blocks_of(*[empty() for k in range(700)]), 0, 600, -1)
        for params in [("x",), ("",), ("n01",), ("n100000",), ("n0", "n0"), ("n0", "r0", "n0"), ("n",), ("need",),
                       tuple(f"n{k}" for k in range(65)), tuple(f"r{k}" for k in range(200))]:
            self.assert_refused(blocks_of(empty(), empty(), empty(GIVE, params)), 0, 2, -1)
            self.assert_refused(blocks_of(empty(GIVE, params), empty()), 0, 0, -1)

    def test_rows(self):
        for row in [
            ("x", "add", (1, 2)), ("n01", "add", (1, 2)), ("n100000", "add", (1, 2)), ("", "add", (1, 2)),
            ("tick", "add", (1, 2)), ("n1", "and", (1, 2)), ("n1", "", (1, 2)), ("n1", "Add", (1, 2)), ("n1", "need", (1, 2)),
            ("n1", "add", (1,)), ("n1", "add", ()), ("n1", "add", (1, 2, 3)), ("n1", "copy", ()), ("n1", "copy", (1, 2)),
            ("n1", "pick", (1, 2)), ("n1", "pick", (1, 2, 3, 4)), ("n1", "at", ("r0",)), ("n1", "size", ()),
            ("n1", "size", ("r0", 1)), ("r1", "put", ("r0", 1)), ("r1", "many", (1,)), ("r1", "keep", ()),
            ("r1", "make", (1,) * 9), ("r1", "make", (1,) * 20),
            ("n1", "add", ("r0", 1)), ("n1", "add", (1, "r0")), ("n1", "at", (1, 1)), ("n1", "at", ("n0", 1)),
            ("n1", "at", ("r0", "r0")), ("n1", "size", (0,)), ("n1", "size", ("n0",)), ("r1", "put", ("n0", 1, 1)),
            ("r1", "put", (0, 1, 1)), ("r1", "put", ("r0", "r0", 1)), ("r1", "put", ("r0", 1, "r0")), ("r1", "many", ("r0", 1)),
            ("r1", "make", (1, "r0")), ("r1", "keep", ("n0",)), ("r1", "keep", (1,)), ("n1", "copy", ("r0",)),
            ("n1", "pick", (1, 2, "r0")),
            ("n1", "add", ("x", 1)), ("n1", "add", ("n00", 1)), ("n1", "add", ("", 1)), ("n1", "add", ("n100000", 1)),
            ("n1", "add", (32768, 1)), ("n1", "add", (1, -32769)), ("n1", "copy", (10 ** 30,)), ("n1", "copy", (-10 ** 30,)),
            ("r1", "add", (1, 2)), ("n1", "make", ()), ("n1", "keep", ("r0",)), ("r1", "copy", (1,)), ("r1", "at", ("r0", 1)),
            ("r1", "size", ("r0",)), ("n1", "put", ("r0", 1, 1)), ("n1", "many", (1, 1)), ("r1", "pick", (1, 1, 1)),
            ("need", "", 1), ("need", "abcdefghi", 1), ("need", "Bad", 1), ("need", "b d", 1), ("need", "b1", 1),
            ("need", "bad", "r0"), ("need", "bad", "x"), ("need", "bad", 32768), ("need", "bad", -32769), ("need", "bad", ""),
            ("need", "bad", "n01"), ("need", "add", (1, 2)),
        ]:
            self.assert_refused(one_block(row), 0, 0, 0)
            self.assert_refused(one_block(TICK, ("n1", "copy", (1,)), row, TICK), 0, 0, 2)
            self.assert_refused(blocks_of(empty(), ((), (TICK, row), GIVE)), 0, 1, 1)

    def test_too_many_rows(self):
        self.assert_refused(one_block(*[TICK] * 1201), 0, 0, 1200)
        self.assert_refused(one_block(*[TICK] * 1300, ("x", "", ())), 0, 0, 1200)
        self.assert_refused(one_block(*[TICK] * 1199, ("x", "", ()), TICK, TICK), 0, 0, 1199)

    def test_ends(self):
        for end in [
            ("go", 0, ()), ("go", -1, ()), ("go", 4, ()), ("go", 10 ** 20, ()), ("go", -3, ()),
            ("go", 1, ()), ("go", 1, ("n0",)), ("go", 1, ("n0", "r0", 1)), ("go", 1, ("r0", "n0")), ("go", 1, ("n0", 1)),
            ("go", 1, ("x", "r0")), ("go", 1, (32768, "r0")), ("go", 2, (1,)), ("go", 1, ("n0", "r00")),
            ("fork", "r0", 2, (), 2, ()), ("fork", "x", 2, (), 2, ()), ("fork", 32768, 2, (), 2, ()),
            ("fork", -32769, 2, (), 2, ()), ("fork", "n0", 0, (), 2, ()), ("fork", "n0", 2, (), 0, ()),
            ("fork", "n0", 4, (), 2, ()), ("fork", "n0", 2, (), 4, ()), ("fork", "n0", -1, (), 2, ()),
            ("fork", "n0", 2, (1,), 2, ()), ("fork", "n0", 2, (), 2, (1,)), ("fork", "n0", 1, (1, 1), 2, ()),
            ("fork", "n0", 2, (), 1, ("r0", "r0")),
            ("give", (1,)), ("give", ("n0",)), ("give", ("r0",)),
            ("call", -1, (), 2, ()), ("call", 2, (), 2, ()), ("call", -1, ("r0",), 3, ()), ("call", -2, ("n0", "r0"), 2, ()),
            ("call", -2, ("r0",), 3, ()), ("call", 10 ** 9, (), 2, ()),
            ("call", 1, (), 3, ()), ("call", 1, ("n0",), 3, ()), ("call", 1, (1,), 3, ()), ("call", 1, ("r0", 1), 3, ()),
            ("call", 1, ("r0",), 0, ()), ("call", 1, ("r0",), 4, ()), ("call", 1, ("r0",), -1, ()),
            ("call", 1, ("r0",), 2, ()), ("call", 1, ("r0",), 3, (1,)), ("call", 1, ("r0",), 1, ()),
            ("call", 1, ("r0",), 1, (1,)), ("call", 1, ("r0",), 1, ("r0", 1)), ("call", 1, ("r0",), 1, ("n0", "r0")),
            ("call", 0, ("n0", "r0"), 1, ("r0",)), ("call", 0, ("n0", "r0"), 2, (1,)), ("call", 0, ("n0",), 2, ()),
            ("call", 1, ("x",), 3, ()), ("call", 1, ("r0",), 1, ("x",)),
        ]:
            self.assert_refused((
                ("f", "", ((("n0", "r0"), (TICK,), end), empty(GIVE, ("n5", "r5")), empty(), empty(GIVE, ("n7",)))),
                ("g", "n", (empty(("give", (3,)), ("r3",)),)),
            ), 0, 0, 1)

    def test_results_of_another_kind_than_the_params(self):
        called = ("g", "nr", (empty(("give", (3, "r3")), ("r3",)),))
        for params, more, fine in [
            (("n1", "r1"), (), True), (("r1", "n1"), (), False), (("n1",), (), False), (("n1", "r1", "n2"), (1,), True),
            (("n1", "r1", "n2"), (), False), (("n1", "r1", "n2"), ("r0",), False), (("n1", "r1", "r2"), ("r0",), True),
        ]:
            middle = (("f", "", (empty(("call", 1, ("r0",), 1, more), ("r0",)), empty(GIVE, params))), called)
            if fine:
                self.assert_right(middle)
            else:
                self.assert_refused(middle, 0, 0, 0)

    def test_gives(self):
        for results, args in [("n", ()), ("n", ("r0",)), ("n", (1, 1)), ("n", ("x",)), ("n", (32768,)), ("r", (1,)),
                              ("r", ("n0",)), ("nr", ("r0", 1)), ("nr", (1,)), ("", (1,))]:
            self.assert_refused(blocks_of((("n0", "r0"), (TICK, TICK), ("give", args)), results=results), 0, 0, 2)

    def test_not_given_for_sure(self):
        for row in [("n1", "copy", ("n9",)), ("n9", "copy", ("n9",)), ("need", "bad", "n9"), ("n1", "size", ("r9",)),
                    ("r1", "make", (1, "n0", "n9")), ("n1", "add", ("n0", "n2"))]:
            self.assert_refused(one_block(TICK, row, ("n2", "copy", (1,)), ("n9", "copy", (1,))), 0, 0, 1)
        for end in [("go", 1, ("n9",)), ("fork", "n9", 1, (1,), 1, (1,)), ("fork", 1, 1, ("n9",), 1, (1,)),
                    ("fork", 1, 1, (1,), 1, ("n9",)), ("give", ("n9",)), ("call", 0, ("n9",), 1, ()),
                    ("call", 0, (1,), 2, ("n9",))]:
            self.assert_refused(blocks_of(
                (("n0",), (TICK, TICK), end), empty(("give", (1,)), ("n1",)), empty(("give", (1,)), ("n1", "n2")), results="n",
            ), 0, 0, 2)

    def test_not_given_on_some_way(self):
        self.assert_refused(blocks_of(
            (("n0",), (), ("fork", "n0", 1, (), 2, ())),
            ((), (("n1", "copy", (1,)),), ("go", 2, ())),
            ((), (TICK, ("n2", "copy", ("n1",))), GIVE),
        ), 0, 2, 1)
        self.assert_refused(blocks_of(
            (("n0",), (), ("go", 1, ())),
            ((), (TICK,), ("fork", "n0", 2, (), 3, ())),
            ((), (("n1", "copy", (1,)),), ("go", 1, ())),
            ((), (("n2", "copy", ("n1",)),), GIVE),
        ), 0, 3, 0)
        self.assert_refused((
            ("f", "", (empty(("call", 1, (), 1, ()), ("n0",)), empty())),
            ("g", "", (((), (("n1", "copy", ("n0",)),), GIVE),)),
        ), 1, 0, 0)

    def test_rings(self):
        ring = [empty(("go", 1, ())), empty(("go", 1, ()))]
        self.assert_refused(blocks_of(*ring), 0, 1, -1)
        self.assert_refused((("g", "", (empty(),)), ("f", "", tuple(ring))), 1, 1, -1)
        self.assert_refused(blocks_of(empty(("go", 3, ())), empty(), empty(("go", 3, ())), empty(("go", 2, ()))), 0, 2, -1)
        self.assert_refused(blocks_of(
            empty(("go", 1, ())), empty(("fork", 1, 2, (), 3, ())), ((), (TICK,), ("go", 1, ())), empty(("go", 4, ())),
            empty(("go", 3, ())),
        ), 0, 3, -1)
        self.assert_refused(blocks_of(
            empty(("go", 1, ())), ((), (TICK,), ("fork", 1, 2, (), 3, ())), empty(("go", 1, ())), empty(("fork", 1, 3, (), 1, ())),
        ), 0, 3, -1)
        self.assert_refused(blocks_of(
            empty(("go", 2, ())), empty(), empty(("fork", 0, 1, (), 2, ())),
        ), 0, 2, -1)
        self.assert_refused(blocks_of(
            ((), (TICK,), ("call", 0, (), 1, ())), empty(("go", 2, ())), ((), (("need", "bad", 1),), ("go", 1, ())),
        ), 0, 1, -1)

    def test_a_block_between_two_rings_lies_on_none(self):
        self.assert_refused(blocks_of(
            empty(("go", 3, ())), empty(("fork", 1, 2, (), 4, ())), ((), (TICK,), ("go", 1, ())), empty(("go", 1, ())),
            empty(("go", 4, ())),
        ), 0, 4, -1)

    def test_the_first_of_two(self):
        bad_row, bad_end, lack = ("x", "add", (1, 1)), ("go", 9, ()), ("n1", "copy", ("n9",))
        fine = ("g", "", (empty(),))
        # A later function's head, and a later block's params, ahead of every row.
        self.assert_refused((("f", "", (((), (bad_row,), GIVE),)), ("F", "", (empty(),))), 1, -1, -1)
        self.assert_refused((("f", "", (((), (bad_row,), GIVE), empty(GIVE, ("x",)))),), 0, 1, -1)
        self.assert_refused((("f", "", (((), (bad_row,), GIVE),)), ("g", "", (empty(GIVE, ("x",)),))), 1, 0, -1)
        # Each function's blocks ahead of the next function.
        self.assert_refused((("f", "", (empty(GIVE, ("x",)),)), ("F", "", ())), 0, 0, -1)
        self.assert_refused((("f", "", (empty(GIVE, ("x",)),)),) + tuple((w, "", (empty(),)) for w in "ghijkl"), 0, 0, -1)
        # A function's own fault ahead of its blocks'.
        self.assert_refused((("F", "", (empty(GIVE, ("x",)),)), fine), 0, -1, -1)
        # The 601st block comes behind the params of those ahead of it.
        self.assert_refused(blocks_of(*[empty()] * 599, empty(GIVE, ("x",)), empty()), 0, 599, -1)
        # Rows, then the end; block by block; function by function.
        self.assert_refused((("f", "", (((), (TICK, bad_row), bad_end),)), fine), 0, 0, 1)
        self.assert_refused((("f", "", (((), (TICK,), bad_end), ((), (bad_row,), GIVE))), fine), 0, 0, 1)
        self.assert_refused((("f", "", (empty(), ((), (bad_row,), GIVE))), ("g", "", (empty(bad_end),))), 0, 1, 0)
        # Rows and ends of all functions ahead of what is not given for sure, not come to or not.
        self.assert_refused((("f", "", (((), (lack,), GIVE), ((), (), bad_end))), fine), 0, 1, 0)
        self.assert_refused((("f", "", (((), (lack,), GIVE),)), ("g", "", (((), (TICK, TICK), bad_end),))), 1, 0, 2)
        # What is not given for sure ahead of all rings.
        ring = (empty(("go", 1, ())), empty(("go", 1, ())))
        self.assert_refused((("f", "", ring), ("g", "", (((), (TICK, lack), GIVE),))), 1, 0, 1)
        self.assert_refused((("f", "", ring), ("g", "", ring)), 0, 1, -1)
        self.assert_refused((("f", "", (((), (lack, lack), GIVE),)), ("g", "", (((), (lack,), GIVE),))), 0, 0, 0)

    def test_by_chance(self):
        told = set()
        for seed in range(4000):
            middle = MiddleMaker(seed, (0, 0.005, 0.02, 0.08)[seed % 4]).middle()
            fields = second_right(middle)
            if fields is None:
                self.assert_right(middle)
            else:
                self.assert_refused(middle, *fields)
            told.add(None if fields is None else tuple(field < 0 for field in fields))
        self.assertEqual(len(told), 4)


if __name__ == "__main__":
    unittest.main()
