"""Points 45 and 47: which code is right."""

import copy
import unittest

from codes import CodeMaker, bent_code, second_right_code

from samepaper.code import right_code
from samepaper.errors import NoCode

TICK, GIVE = ("tick",), ("give", ())
GIVES = (GIVE,)


def function(*steps, word="f", takes="", results="", cells=None):
    return (word, takes, results, len(takes) if cells is None else cells, steps)


class CodeCase(unittest.TestCase):
    def told(self, code):
        kept = copy.deepcopy(code)
        try:
            self.assertIs(right_code(code), True)
            fields = None
        except NoCode as error:
            fields = (error.function, error.step)
        self.assertEqual(repr(code), repr(kept))
        self.assertEqual(second_right_code(code), fields)
        return fields

    def assert_right(self, *functions):
        self.assertIsNone(self.told(functions))

    def assert_refused(self, fields, *functions):
        self.assertEqual(self.told(functions), fields)


class HeadsTest(CodeCase):
    def test_functions(self):
        for many in range(1, 7):
            self.assert_right(*[function(GIVE, word="abcdef"[k]) for k in range(many)])
        for code in ((), tuple(function(GIVE, word="abcdefg"[k]) for k in range(7)), [function(GIVE)], None, "f", 5, True):
            self.assertEqual(self.told(code), (-1, -1))

    def test_what_is_no_tuple_of_five(self):
        good = function(GIVE)
        for bad in (None, 0, True, "f", "fghij", [], list(good), (), good[:4], good + (1,), (good,)):
            self.assert_refused((0, -1), bad)
            self.assert_refused((1, -1), good, bad)

    def test_words(self):
        for word in ("a", "abcdefgh", "give", "tick"):
            self.assert_right(function(GIVE, word=word))
        for word in ("", "abcdefghi", "A", "f1", "f ", "n0", None, 5, True, ["f"], ("f",), "\u00e9"):
            self.assert_refused((0, -1), function(GIVE, word=word))
        self.assert_refused((1, -1), function(GIVE), function(GIVE))
        self.assert_refused((2, -1), function(GIVE), function(GIVE, word="g"), function(GIVE))

    def test_takes_and_results(self):
        for takes in ("", "n", "r", "nr" * 32):
            self.assert_right(function(GIVE, takes=takes))
        for takes in ("x", "N", "nr" * 32 + "n", "n ", None, 1, False, ("n",), ["n"]):
            self.assert_refused((0, -1), ("f", takes, "", 70, GIVES))
        for results in ("", "n", "nrnr"):
            give = ("give", tuple(1 if kind == "n" else ("r", 0) for kind in results))
            self.assert_right(function(give, takes="r", results=results))
        for results in ("nnnnn", "x", None, 0, True, ("n",), ["n", "n"]):
            self.assert_refused((0, -1), ("f", "", results, 70, GIVES))

    def test_cells(self):
        for cells in (0, 1, 9999, 10000):
            self.assert_right(function(GIVE, cells=cells))
        for cells in (-1, 10001, 10 ** 30, True, False, None, "1", (1,), [1]):
            self.assert_refused((0, -1), ("f", "", "", cells, GIVES))
        # No fewer than takes has signs.
        self.assert_right(function(GIVE, takes="nr", cells=2))
        self.assert_refused((0, -1), function(GIVE, takes="nr", cells=1))
        self.assert_right(function(GIVE, takes="n", cells=1))
        self.assert_refused((0, -1), function(GIVE, takes="n", cells=True))

    def test_steps(self):
        self.assert_right(function(GIVE))
        for steps in ((), None, 1, "give", [GIVE], True):
            self.assert_refused((0, -1), ("f", "", "", 0, steps))

    def test_how_many_steps(self):
        for many, right in ((60000, True), (60001, False)):
            code = (function(*(TICK,) * (many - 1), GIVE),)
            if right:
                self.assertIs(right_code(code), True)
            else:
                with self.assertRaises(NoCode) as caught:
                    right_code(code)
                self.assertEqual((caught.exception.function, caught.exception.step), (0, -1))

    def test_heads_go_ahead_of_steps(self):
        bad = function(("hop",))
        self.assert_refused((1, -1), bad, function(GIVE))
        self.assert_refused((1, -1), bad, None)
        self.assert_refused((0, 0), bad, function(GIVE, word="g"))


class StepsTest(CodeCase):
    """Each step by itself: it stands where it is not come to, so that nothing else is asked of it."""

    def assert_step(self, told, *steps, **head):
        for step in steps:
            give = ("give", tuple(1 for kind in head.get("results", "")))
            code = (function(give, step, give, **head), function(("give", (1,)), word="g", takes="nr", results="n"),
                    function(GIVE, word="h"))
            self.assertEqual(self.told(code), None if told else (0, 1), step)

    def test_what_is_no_step(self):
        self.assert_step(False, None, 0, True, "tick", [], ["tick"], (), (("tick",),), (None,), (1,), ("",), ("Tick",), ("go", 0), ("hop",), (["tick"],))

    def test_operations(self):
        self.assert_step(True, ("add", "n0", ("n1", "n7")), ("add", "n7", (-32768, 32767)), ("copy", "n0", (5,)), ("copy", "n0", ("n0",)), ("keep", "r3", ("r0",)),
                         ("pick", "n1", ("n2", 3, "n4")), ("at", "n0", ("r0", "n0")), ("size", "n0", ("r3",)), ("put", "r0", ("r0", 1, "n1")), ("many", "r1", (3, "n0")),
                         ("make", "r0", ()), ("make", "r0", ("n0",) * 8), ("make", "r0", (1, "n2", 3)), ("div", "n0", (1, 0)), ("rest", "n0", ("n0", 0)),
                         ("sub", "n0", ("n0", 1)), ("mul", "n0", (2, 2)), ("less", "n0", ("n0", "n0")), ("same", "n0", (0, 0)))
        # Boxes, and what is none.
        self.assert_step(False, *[("add", box, (1, 2)) for box in ("n8", "n-1", "n", "n00", "r0", "m0", "", None, 0, ("n", 0), ["n0"])])
        self.assert_step(False, *[("make", box, (1, 2)) for box in ("r4", "n0", "r", "r10")])
        self.assert_step(False, *[("add", "n0", (1, operand)) for operand in (32768, -32769, True, False, None, "n8", "r0", ("n", 0), [1], "1")])
        self.assert_step(False, *[("size", "n0", (operand,)) for operand in (1, "n0", "r4", ("r", 0), None, ())])
        # How many operands, and of what kinds.
        self.assert_step(False, ("add", "n0", ()), ("add", "n0", (1,)), ("add", "n0", (1, 2, 3)), ("make", "r0", (1,) * 9), ("pick", "n0", (1, 2)), ("copy", "n0", (1, 2)),
                         ("at", "n0", ("n0", "r0")), ("put", "r0", ("r0", "r0", 1)), ("keep", "n0", ("n0",)), ("copy", "r0", ("r0",)), ("make", "r0", ("r0",)))
        self.assert_step(False, ("add", "n0", [1, 2]), ("add", "n0"), ("add", "n0", (1, 2), 3), ("add", "n0", 1), ("add", "n0", None), ("add", "n0", "n1"), ("make", "r0", "n0"))

    def test_loads_and_stores(self):
        self.assert_step(True, ("load", "n0", 0), ("load", "r3", 2), ("store", 0, "n7"), ("store", 2, "r0"), cells=3)
        self.assert_step(False, ("load", "n0", 3), ("load", "n0", -1), ("load", "n8", 0), ("load", "n0", True), ("load", "n0", None), ("load", 0, "n0"), ("load", "n0", ("n", 0)),
                         ("load", "n0"), ("load", "n0", 0, 0), ("load", ["n0"], 0), cells=3)
        self.assert_step(False, ("store", 3, "n0"), ("store", -1, "n0"), ("store", 0, "r4"), ("store", False, "n0"), ("store", "n0", 0), ("store", 0, 5), ("store", 0),
                         ("store", ("n", 0), "n0"), ("store", 0, None), cells=3)
        self.assert_step(False, ("load", "n0", 0), ("store", 0, "n0"))

    def test_needs_and_ticks(self):
        self.assert_step(True, ("need", "a", "n0"), ("need", "abcdefgh", 0), ("need", "need", -1), TICK)
        self.assert_step(False, ("need", "", "n0"), ("need", "abcdefghi", "n0"), ("need", "A", "n0"), ("need", 1, "n0"), ("need", None, 1), ("need", "a", "r0"), ("need", "a", "n8"),
                         ("need", "a", True), ("need", "a", ("n", 0)), ("need", "a"), ("need", "a", 1, 1), ("tick", 1), ("tick", ()), cells=3)

    def test_jumps_and_branches(self):
        self.assert_step(True, ("jump", 0), ("jump", 2), ("branch", "n0", 0), ("branch", 1, 2), ("branch", 0, 1))
        self.assert_step(False, ("jump", 3), ("jump", -1), ("jump", True), ("jump", None), ("jump", "0"), ("jump",), ("jump", 0, 0), ("branch", "n0", 3), ("branch", "n0", -1),
                         ("branch", "n0", False), ("branch", "r0", 0), ("branch", True, 0), ("branch", ("n", 0), 0), ("branch", 32768, 0), ("branch", 0), ("branch", 1, 2, 0), cells=3)

    def test_calls(self):
        self.assert_step(True, ("call", 1, (1, "r0"), (("n", 0),)), ("call", 1, ("n7", ("r", 2)), (("n", 2),)), ("call", 1, (("n", 0), "r0"), (("n", 0),)), ("call", 2, (), ()),
                         ("call", 0, (), ()), cells=3)
        self.assert_step(False, ("call", 3, (), ()), ("call", -1, (), ()), ("call", True, (1, "r0"), (("n", 0),)), ("call", "g", (1, "r0"), (("n", 0),)), ("call", None, (), ()), cells=3)
        self.assert_step(False, *[("call", 1, operands, (("n", 0),)) for operands in ((), (1,), (1, "r0", 1), ("r0", 1), (1, 1), ("r0", "r0"), (True, "r0"), (("r", 0), "r0"),
                                  (("n", 3), "r0"), (("n", -1), "r0"), (("n", True), "r0"), (["n", 0], "r0"), (("n",), "r0"), (("n", 0, 0), "r0"), [1, "r0"], None, 1, "r0")], cells=3)
        self.assert_step(False, *[("call", 1, (1, "r0"), cells) for cells in ((), (("r", 0),), (("n", 3),), (("n", -1),), (("n", 0), ("n", 1)), ("n0",), (0,), ("n", 0), [("n", 0)],
                                  (["n", 0],), None, (("n", False),), (("x", 0),))], cells=3)
        self.assert_step(False, ("call", 2, ()), ("call", 2), ("call", 2, (), (), ()), cells=3)

    def test_results_at_unlike_places(self):
        pair = function(("give", (1, 2)), word="g", results="nn")
        mixed = function(("give", (1, ("r", 0))), word="h", takes="r", results="nr")
        for told, step in ((None, ("call", 1, (), (("n", 0), ("n", 1)))), ((0, 1), ("call", 1, (), (("n", 0), ("n", 0)))),
                           (None, ("call", 2, ("r0",), (("n", 0), ("r", 1)))), ((0, 1), ("call", 2, ("r0",), (("n", 1), ("r", 1))))):
            self.assertEqual(self.told((function(GIVE, step, GIVE, cells=2), pair, mixed)), told)

    def test_gives(self):
        self.assert_step(True, ("give", (1, 2)), ("give", ("n0", ("n", 2))), cells=3, results="nn")
        self.assert_step(False, ("give", (1,)), ("give", ()), ("give", (1, 2, 3)), ("give", ("r0", 1)), ("give", (("r", 0), 1)), ("give", (("n", 3), 1)), ("give", [1, 2]), ("give",),
                         ("give", (1, 2), ()), ("give", (True, 1)), ("give", None), cells=3, results="nn")

    def test_the_first_one_is_told(self):
        bad = ("hop",)
        self.assert_refused((0, 2), function(GIVE, TICK, bad, bad))
        self.assert_refused((1, 0), function(GIVE), function(bad, GIVE, word="g"), function(bad, word="h"))
        # Ahead of what is read otherwise, of going on beyond the last one, and of rings, in all functions.
        self.assert_refused((1, 1), function(("need", "a", "n0"), GIVE), function(GIVE, bad, word="g"))
        self.assert_refused((1, 1), function(TICK), function(GIVE, bad, word="g"))
        self.assert_refused((1, 1), function(("jump", 0)), function(GIVE, bad, word="g"))


class ReadsTest(CodeCase):
    def test_boxes(self):
        gives, reads = ("copy", "n0", (1,)), ("need", "a", "n0")
        self.assert_right(function(gives, reads, GIVE))
        self.assert_refused((0, 0), function(reads, gives, GIVE))
        self.assert_refused((0, 0), function(("add", "n0", ("n0", 1)), GIVE))
        self.assert_right(function(("load", "n0", 0), reads, GIVE, takes="n"))
        for step in (("add", "n1", (1, "n0")), ("store", 0, "n0"), ("branch", "n0", 0), ("make", "r0", (1, "n0")), ("give", ("n0",)), ("call", 0, ("n0",), (("n", 0),))):
            self.assert_refused((0, 0), function(step, TICK, ("give", (1,)), takes="n", results="n"))
            self.assert_right(function(gives, TICK, step, ("give", (1,)), takes="n", results="n"))
        # Another box, another kind.
        self.assert_refused((0, 1), function(gives, ("need", "a", "n1"), GIVE))
        self.assert_refused((0, 1), function(gives, ("size", "n0", ("r0",)), GIVE))

    def test_a_box_on_some_way(self):
        gives, reads = ("copy", "n0", (1,)), ("need", "a", "n0")
        # Branches are taken either way, whatever their operand is.
        for operand in (0, 1):
            self.assert_refused((0, 2), function(("branch", operand, 2), gives, reads, GIVE))
            self.assert_right(function(("branch", operand, 3), gives, reads, GIVE))
        self.assert_right(function(("branch", 1, 3), gives, ("jump", 4), gives, reads, GIVE))
        self.assert_refused((0, 4), function(("branch", 1, 3), gives, ("jump", 4), TICK, reads, GIVE))
        # Round a loop.
        self.assert_right(function(gives, TICK, reads, gives, ("branch", "n0", 1), GIVE))

    def test_behind_a_call(self):
        gives, reads, call = ("copy", "n0", (1,)), ("need", "a", "n0"), ("call", 1, (), ())
        g = function(gives, GIVE, word="g")
        self.assert_refused((0, 2), function(gives, call, reads, GIVE), g)
        self.assert_right(function(gives, call, gives, reads, GIVE), g)
        self.assert_right(function(gives, reads, call, GIVE), g)
        # On one way there is a call between.
        self.assert_refused((0, 3), function(gives, ("branch", "n0", 3), call, reads, GIVE), g)
        self.assert_refused((0, 1), function(gives, reads, call, ("jump", 1)), g)
        # The call itself reads its operands ahead.
        self.assert_right(function(gives, ("call", 1, ("n0",), ()), GIVE), function(GIVE, word="g", takes="n"))
        # What is given ahead of a call is not given to the one that is called.
        self.assert_refused((1, 0), function(gives, call, GIVE), function(reads, GIVE, word="g"))

    def test_cells(self):
        gives, store, load = ("copy", "n0", (1,)), ("store", 0, "n0"), ("load", "n1", 0)
        self.assert_right(function(gives, store, load, GIVE, cells=1))
        self.assert_refused((0, 0), function(load, gives, store, GIVE, cells=1))
        self.assert_right(function(load, GIVE, takes="n"))
        self.assert_refused((0, 0), function(load, GIVE, takes="r"))
        self.assert_right(function(("load", "r1", 0), GIVE, takes="r"))
        self.assert_refused((0, 0), function(("load", "r1", 0), GIVE, takes="n"))
        self.assert_refused((0, 0), function(("load", "n1", 1), GIVE, takes="n", cells=2))
        # Calls and gives read cells as of a kind, too.
        for cell, told in ((("n", 0), None), (("n", 1), (0, 0)), (("n", 2), (0, 0))):
            self.assertEqual(self.told((function(("give", (cell,)), takes="nr", results="n", cells=3),)), told)
            g = function(GIVE, word="g", takes="n")
            self.assertEqual(self.told((function(("call", 1, (cell,), ()), GIVE, takes="nr", cells=3), g)), told)

    def test_what_was_laid_in_last(self):
        row, number = ("make", "r0", ()), ("copy", "n0", (1,))
        self.assert_right(function(row, ("store", 0, "r0"), ("load", "r1", 0), GIVE, takes="n"))
        self.assert_refused((0, 2), function(row, ("store", 0, "r0"), ("load", "n1", 0), GIVE, takes="n"))
        self.assert_refused((0, 4), function(row, number, ("store", 0, "r0"), ("store", 0, "n0"), ("load", "r1", 0), GIVE, takes="n"))
        # Unlike kinds on two ways: neither may be read, till something is laid in.
        both = (row, ("branch", 1, 3), ("store", 0, "r0"))
        self.assert_refused((0, 3), function(*both, ("load", "n1", 0), GIVE, takes="n"))
        self.assert_refused((0, 3), function(*both, ("load", "r1", 0), GIVE, takes="n"))
        self.assert_right(function(*both, GIVE, takes="n"))
        self.assert_right(function(*both, ("store", 0, "r0"), ("load", "r1", 0), GIVE, takes="n"))

    def test_results_in_cells(self):
        g = function(("give", (1, ("r", 0))), word="g", takes="r", results="nr")
        call = ("call", 1, (("r", 0),), (("n", 1), ("r", 2)))
        self.assert_right(function(call, ("load", "n0", 1), ("load", "r0", 2), ("load", "r1", 0), GIVE, takes="r", cells=3), g)
        self.assert_refused((0, 1), function(call, ("load", "r0", 1), GIVE, takes="r", cells=3), g)
        self.assert_refused((0, 0), function(("load", "n0", 1), call, GIVE, takes="r", cells=3), g)
        # A call's operands are read ahead of its results being laid.
        swap = ("call", 1, (("r", 0),), (("n", 0), ("r", 1)))
        self.assert_right(function(swap, ("load", "n0", 0), GIVE, takes="r", cells=2), g)
        self.assert_refused((0, 1), function(swap, swap, GIVE, takes="r", cells=2), g)
        # Cells outlast calls, boxes don't.
        self.assert_right(function(("call", 1, (("r", 0),), (("n", 1), ("r", 2))), ("load", "r0", 0), GIVE, takes="r", cells=3), g)

    def test_beyond_the_last_one(self):
        self.assert_refused((0, 0), function(TICK))
        self.assert_refused((0, 1), function(TICK, TICK))
        for last in (("copy", "n0", (1,)), ("load", "n0", 0), ("store", 0, "n1"), ("need", "a", 0), ("need", "a", 1), ("branch", 1, 0), ("branch", 0, 0), TICK, ("call", 0, (1,), ())):
            self.assert_refused((0, 2), function(("copy", "n1", (1,)), TICK, last, takes="n"))
        self.assert_right(function(TICK, ("jump", 0)))
        # Where it can't be come to, it may.
        self.assert_right(function(GIVE, TICK))
        self.assert_right(function(("jump", 2), TICK, GIVE, TICK))
        self.assert_refused((0, 3), function(("branch", 1, 2), TICK, TICK, TICK))

    def test_steps_that_cannot_be_come_to(self):
        bad = ("need", "a", "n0")
        self.assert_right(function(GIVE, bad, ("load", "r0", 0), ("jump", 3), takes="n"))
        self.assert_right(function(("jump", 2), bad, GIVE))
        self.assert_refused((0, 1), function(("branch", 1, 2), bad, GIVE))
        # What they lay counts for nothing.
        self.assert_refused((0, 2), function(("jump", 2), ("copy", "n0", (1,)), bad, GIVE))
        self.assert_right(function(("copy", "n0", (1,)), ("jump", 4), ("make", "r0", ()), ("jump", 4), bad, GIVE))

    def test_the_first_one_is_told(self):
        """The least number, not the one that is come to first; in the first function that has one."""
        bad = ("need", "a", "n0")
        self.assert_refused((0, 1), function(("jump", 3), bad, GIVE, bad, ("jump", 1)))
        self.assert_refused((0, 1), function(("jump", 3), bad, TICK, bad, ("jump", 1)))
        self.assert_refused((1, 0), function(GIVE), function(bad, GIVE, word="g"), function(bad, GIVE, word="h"))
        # A step that reads otherwise gives what it gives, though.
        self.assert_refused((0, 2), function(("jump", 2), GIVE, ("add", "n0", ("n1", 1)), bad, ("jump", 1)))
        # Of a function with both sorts of fault the first step; one function's faults ahead of another's.
        self.assert_refused((0, 0), function(bad, TICK), function(TICK, word="g"))
        self.assert_refused((0, 1), function(TICK, TICK), function(bad, GIVE, word="g"))
        # All of these ahead of rings.
        self.assert_refused((1, 0), function(("jump", 0)), function(bad, GIVE, word="g"))
        self.assert_refused((0, 2), function(("branch", 1, 2), ("jump", 1), bad, GIVE))


class RingsTest(CodeCase):
    def test_rings(self):
        self.assert_refused((0, 0), function(("jump", 0)))
        self.assert_refused((0, 1), function(TICK, ("jump", 1)))
        self.assert_right(function(TICK, ("jump", 0)))
        self.assert_right(function(("call", 0, (), ()), ("jump", 0)))
        self.assert_refused((0, 1), function(TICK, ("copy", "n0", (1,)), ("need", "a", "n0"), ("branch", "n0", 1), GIVE))
        self.assert_right(function(("copy", "n0", (1,)), TICK, ("branch", "n0", 0), GIVE))
        # A branch that is never taken leads back all the same.
        self.assert_refused((0, 0), function(("branch", 0, 0), GIVE))

    def test_rings_on_some_way(self):
        """A tick on one way round is not enough for the other one."""
        self.assert_refused((0, 0), function(("branch", 1, 2), TICK, ("branch", 1, 0), GIVE))
        self.assert_right(function(("branch", 1, 3), TICK, ("jump", 4), TICK, ("branch", 1, 0), GIVE))

    def test_the_first_one_is_told(self):
        # Steps between two rings lie on none.
        self.assert_refused((0, 4), function(TICK, ("branch", 1, 0), ("need", "a", 1), ("jump", 4), ("branch", 1, 4), GIVE))
        self.assert_refused((0, 1), function(("jump", 1), ("branch", 1, 1), ("need", "a", 1), ("branch", 1, 3), GIVE))
        self.assert_refused((0, 2), function(("jump", 4), GIVE, ("jump", 3), ("jump", 2), ("branch", 1, 2), ("jump", 5)))
        self.assert_refused((0, 1), function(("jump", 3), ("jump", 1), GIVE, ("branch", 1, 1), ("jump", 4)))
        self.assert_refused((1, 1), function(GIVE), function(TICK, ("jump", 1), word="g"), function(("jump", 0), word="h"))

    def test_rings_that_cannot_be_come_to(self):
        self.assert_right(function(GIVE, ("jump", 1)))
        self.assert_right(function(("jump", 2), ("jump", 1), GIVE))

    def test_long_rings(self):
        many = 60000
        for first in (0, 1, many // 2, many - 1):
            steps = tuple(("jump", k + 1) for k in range(many - 1)) + (("jump", first),)
            with self.assertRaises(NoCode) as caught:
                right_code((function(*steps),))
            self.assertEqual((caught.exception.function, caught.exception.step), (0, first))

    def test_told_counts(self):
        """60,000 steps and 10,000 cells in each of six functions; all cells are laid on one of two ways alone."""
        first = (("copy", "n0", (1,)), ("branch", "n0", 20002))
        stores = tuple(("store", k, "n0") for k in range(10000)) * 2
        last = tuple(("load", "n1", k % 10000) for k in range(60000 - len(stores) - 3)) + (GIVE,)
        bad = tuple(function(*first, *stores, *last, word=word, cells=10000) for word in "abcdef")
        with self.assertRaises(NoCode) as caught:
            right_code(bad)
        self.assertEqual((caught.exception.function, caught.exception.step), (0, 20002))
        # Each is laid twice: it is enough that the second time lies on each way.
        right = tuple(function(first[0], ("branch", "n0", 10002), *stores, *last, word=word, cells=10000) for word in "abcdef")
        self.assertIs(right_code(right), True)


class DrawnTest(CodeCase):
    def test_right_and_bent(self):
        told = {True: 0, False: 0}
        for seed in range(300):
            maker = CodeMaker(seed, pieces=1 + seed % 12, steps=2 + seed % 9)
            code = maker.code()
            self.assertIsNone(self.told(code))
            for k in range(6):
                code = bent_code(code, maker.chance)
                told[self.told(code) is None] += 1
        self.assertGreater(min(told.values()), 300)


if __name__ == "__main__":
    unittest.main()
