"""Point 46: the machine."""

import copy
import unittest

from codes import CodeMaker, second_run_code

from samepaper.code import right_code
from samepaper.engine import run_code

TICK = ("tick",)


def function(*steps, word="f", takes="", results="", cells=None):
    return (word, takes, results, len(takes) if cells is None else cells, steps)


class EngineCase(unittest.TestCase):
    def assert_run(self, outcome, code, *values, bound=0, function=0):
        right_code(code)
        kept = copy.deepcopy(code)
        told = run_code(code, function, values, bound)
        self.assertEqual(told, outcome)
        self.assertIs(type(told), tuple)
        self.assertEqual(second_run_code(code, function, values, bound), outcome)
        self.assertEqual(code, kept)


class StepsTest(EngineCase):
    def test_operations(self):
        for step, told in ((("add", "n2", ("n0", "n1")), 10), (("sub", "n2", ("n0", "n1")), 4), (("mul", "n2", ("n0", 10000)), 4464), (("div", "n2", ("n0", "n1")), 2),
                           (("rest", "n2", ("n0", "n1")), 1), (("less", "n2", ("n1", "n0")), 1), (("same", "n2", (7, "n0")), 1), (("pick", "n2", (0, 1, "n1")), 3),
                           (("copy", "n2", ("n1",)), 3), (("at", "n2", ("r0", 1)), 9), (("size", "n2", ("r0",)), 2)):
            code = (function(("load", "n0", 0), ("load", "n1", 1), ("load", "r0", 2), step, ("give", ("n2",)), takes="nnr", results="n"),)
            self.assert_run(("back", (told,)), code, 7, 3, (8, 9))
        for step, told in ((("put", "r2", ("r0", 1, "n0")), (8, 7)), (("many", "r2", (3, "n0")), (7, 7, 7)), (("make", "r2", ("n0", 5)), (7, 5)), (("keep", "r2", ("r0",)), (8, 9))):
            code = (function(("load", "n0", 0), ("load", "r0", 1), step, ("give", ("r2",)), takes="nr", results="r"),)
            self.assert_run(("back", (told,)), code, 7, (8, 9))

    def test_a_box_that_is_given_what_it_is_made_of(self):
        code = (function(("load", "n0", 0), ("add", "n0", ("n0", "n0")), ("mul", "n0", ("n0", "n0")), ("give", ("n0",)), takes="n", results="n"),)
        self.assert_run(("back", (36,)), code, 3)

    def test_cells(self):
        code = (function(("load", "n0", 0), ("load", "r0", 1), ("store", 0, "r0"), ("store", 1, "n0"), ("load", "r1", 0), ("load", "n1", 1),
                         ("give", (("r", 0), ("n", 1), "r1", "n1")), takes="nr", results="rnrn"),)
        self.assert_run(("back", ((4, 5), 3, (4, 5), 3)), code, 3, (4, 5))
        far = (function(("copy", "n0", (5,)), ("store", 9999, "n0"), ("give", (("n", 9999),)), results="n", cells=10000),)
        self.assert_run(("back", (5,)), far)

    def test_nothing_is_given(self):
        self.assert_run(("back", ()), (function(("give", ())),))
        self.assert_run(("back", (1, -5)), (function(("give", (1, -5)), results="nn"),))

    def test_needs(self):
        code = (function(("load", "n0", 0), ("need", "bad", "n0"), ("need", "worse", 1), ("load", "n1", 1), ("need", "worst", "n1"), ("give", ("n0",)), takes="nn", results="n"),)
        self.assert_run(("back", (2,)), code, 2, 3)
        self.assert_run(("back", (-1,)), code, -1, -1)
        self.assert_run(("fault", "bad"), code, 0, 3)
        self.assert_run(("fault", "bad"), code, 0, 0)
        self.assert_run(("fault", "worst"), code, 1, 0)
        self.assert_run(("fault", "never"), (function(("need", "never", 0), ("give", ())),))

    def test_jumps_and_branches(self):
        code = (function(("load", "n0", 0), ("branch", "n0", 4), ("copy", "n1", (10,)), ("jump", 5), ("copy", "n1", (20,)), ("give", ("n1",)), takes="n", results="n"),)
        self.assert_run(("back", (10,)), code, 0)
        for value in (1, -1, 32767):
            self.assert_run(("back", (20,)), code, value)
        self.assert_run(("back", (2,)), (function(("branch", 1, 2), ("give", (1,)), ("give", (2,)), results="n"),))
        self.assert_run(("back", (1,)), (function(("branch", 0, 2), ("give", (1,)), ("give", (2,)), results="n"),))

    def test_ticks(self):
        code = (function(TICK, ("load", "n0", 0), ("need", "bad", "n0"), TICK, ("give", ("n0",)), takes="n", results="n"),)
        self.assert_run(("dry",), code, 5, bound=0)
        self.assert_run(("dry",), code, 5, bound=1)
        self.assert_run(("back", (5,)), code, 5, bound=2)
        self.assert_run(("fault", "bad"), code, 0, bound=1)
        self.assert_run(("dry",), code, 0, bound=0)

    def test_a_loop(self):
        code = (function(("copy", "n1", (0,)), ("store", 1, "n1"), ("load", "n0", 0), ("branch", "n0", 5), ("give", (("n", 1),)), TICK, ("load", "n1", 1), ("add", "n1", ("n1", "n0")),
                         ("store", 1, "n1"), ("sub", "n0", ("n0", 1)), ("store", 0, "n0"), ("jump", 2), takes="n", results="n", cells=2),)
        for rounds in range(6):
            self.assert_run(("back", (rounds * (rounds + 1) // 2,)), code, rounds, bound=rounds)
            if rounds:
                self.assert_run(("dry",), code, rounds, bound=rounds - 1)


class CallsTest(EngineCase):
    def test_operands_and_results(self):
        g = function(("load", "n0", 0), ("load", "n1", 1), ("load", "n2", 2), ("mul", "n0", ("n0", 100)), ("mul", "n1", ("n1", 10)), ("add", "n0", ("n0", "n1")),
                     ("add", "n0", ("n0", "n2")), ("give", (("r", 3), "n0")), word="g", takes="nnnr", results="rn")
        f = function(("load", "n5", 0), ("call", 1, ("n5", 2, ("n", 1), ("r", 2)), (("r", 4), ("n", 3))), ("give", (("n", 3), ("r", 4), ("n", 0))), takes="nnr", results="nrn", cells=5)
        self.assert_run(("back", (123, (7,), 1)), (f, g), 1, 3, (7,), bound=1)
        self.assert_run(("dry",), (f, g), 1, 3, (7,), bound=0)
        self.assert_run(("back", ((9,), 456)), (f, g), 4, 5, 6, (9,), bound=0, function=1)

    def test_each_call_has_cells_of_its_own(self):
        g = function(("copy", "n0", (99,)), ("store", 0, "n0"), ("store", 1, "n0"), ("give", ()), word="g", takes="n", cells=2)
        f = function(("call", 1, (("n", 0),), ()), ("give", (("n", 0), ("n", 1))), takes="nn", results="nn")
        self.assert_run(("back", (1, 2)), (f, g), 1, 2, bound=1)

    def test_results_over_what_was_there(self):
        g = function(("give", (("n", 1), ("n", 0))), word="g", takes="nn", results="nn")
        f = function(("call", 1, (("n", 0), ("n", 1)), (("n", 0), ("n", 1))), ("call", 1, (("n", 0), 7), (("n", 1), ("n", 0))), ("give", (("n", 0), ("n", 1))), takes="nn", results="nn")
        self.assert_run(("back", (4, 7)), (f, g), 3, 4, bound=2)

    def test_boxes_are_there_once(self):
        """Operands are read ahead; a caller's box is not kept for it, and is given anew ahead of being read."""
        g = function(("load", "n0", 0), ("add", "n0", ("n0", 1)), ("give", ("n0",)), word="g", takes="n", results="n")
        f = function(("copy", "n0", (5,)), ("store", 0, "n0"), ("call", 1, ("n0",), (("n", 1),)), ("load", "n0", 0), ("load", "n1", 1), ("give", ("n0", "n1")), results="nn", cells=2)
        self.assert_run(("back", (5, 6)), (f, g), bound=1)

    def test_faults_and_ticks_within(self):
        g = function(TICK, ("load", "n0", 0), ("need", "bad", "n0"), ("give", ()), word="g", takes="n")
        f = function(("call", 1, (("n", 0),), ()), TICK, ("call", 1, (("n", 1),), ()), ("give", ()), takes="nn")
        for bound in range(5):
            self.assert_run(("dry",), (f, g), 1, 1, bound=bound)
        self.assert_run(("back", ()), (f, g), 1, 1, bound=5)
        self.assert_run(("fault", "bad"), (f, g), 0, 1, bound=2)
        self.assert_run(("dry",), (f, g), 0, 1, bound=1)
        self.assert_run(("fault", "bad"), (f, g), 1, 0, bound=5)

    def test_of_itself_and_one_another(self):
        f = function(("load", "n0", 0), ("branch", "n0", 3), ("give", (1,)), ("sub", "n1", ("n0", 1)), ("call", 1, ("n1",), (("n", 1),)), ("load", "n0", 0), ("load", "n1", 1),
                     ("mul", "n0", ("n0", "n1")), ("give", ("n0",)), takes="n", results="n", cells=2)
        g = function(("call", 0, (("n", 0),), (("n", 0),)), ("give", (("n", 0),)), word="g", takes="n", results="n")
        self.assert_run(("back", (720,)), (f, g), 6, bound=12)
        self.assert_run(("dry",), (f, g), 6, bound=11)

    def test_as_deep_as_ticks_let_them(self):
        f = function(("load", "n0", 0), ("branch", "n0", 3), ("give", (0,)), ("sub", "n1", ("n0", 1)), ("call", 0, ("n1",), (("n", 1),)), ("load", "n1", 1), ("add", "n1", ("n1", 3)),
                     ("give", ("n1",)), takes="n", results="n", cells=10000)
        right_code((f,))
        self.assertEqual(run_code((f,), 0, (30000,), 10 ** 6), ("back", (24464,)))
        self.assertEqual(run_code((f,), 0, (30000,), 29999), ("dry",))
        ever = function(("call", 0, (), ()), ("give", ()))
        self.assertEqual(run_code((ever,), 0, (), 10 ** 6), ("dry",))


class DrawnTest(EngineCase):
    def test_by_chance(self):
        told = {"back": 0, "fault": 0, "dry": 0}
        for seed in range(300):
            maker = CodeMaker(seed, pieces=1 + seed % 12, steps=2 + seed % 9)
            code = maker.code()
            right_code(code)
            for f in range(len(code)):
                for bound in (0, 1, 2, 5, 20):
                    values = maker.values(code, f)
                    outcome = second_run_code(code, f, values, bound)
                    self.assert_run(outcome, code, *values, bound=bound, function=f)
                    told[outcome[0]] += 1
        self.assertGreater(min(told.values()), 100)


if __name__ == "__main__":
    unittest.main()
