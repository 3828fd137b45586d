"""Point 48: code read again."""

import copy
import unittest

from codes import CodeMaker, as_code_tells, bent_code, second_right_code
from making import few_names
from middles import second_right

from samepaper.code import right_code
from samepaper.engine import run_code
from samepaper.middle import right_middle
from samepaper.reread import reread
from samepaper.running import run

TICK, GIVE = ("tick",), ("give", ())


def function(*steps, word="f", takes="", results="", cells=None):
    return (word, takes, results, len(takes) if cells is None else cells, steps)


class RereadCase(unittest.TestCase):
    def asked(self, code, values, bounds=(0, 1, 2, 5, 12), functions=None):
        """What right code is read again as, asked for all that is promised; values tells some for a function's number."""
        right_code(code)
        kept = copy.deepcopy(code)
        middle = reread(code)
        self.assertEqual(code, kept)
        self.assertIs(right_middle(middle), True)
        self.assertIsNone(second_right(middle) if few_names(middle) else None)
        self.assertEqual(as_code_tells(middle), [told[:3] for told in code])
        for number in range(len(code)) if functions is None else functions:
            for bound in bounds:
                told = values(number)
                outcome = run_code(code, number, told, bound)
                self.assertEqual(run(middle, number, told, bound), outcome)
        return middle

    def assert_read(self, code, *values, bounds=(0, 1, 2, 5, 12)):
        for told in values:
            self.asked(code, lambda number: told, bounds, functions=(0,))


class RereadTest(RereadCase):
    def test_straight(self):
        code = (function(("load", "n0", 0), ("load", "r0", 1), ("add", "n1", ("n0", 5)), ("store", 2, "n1"), ("put", "r1", ("r0", 0, "n1")), TICK, ("need", "bad", "n1"),
                         ("give", (("n", 2), "r1", 7)), takes="nr", results="nrn", cells=3),)
        self.assert_read(code, (1, (2, 3)), (-5, ()))
        self.assertEqual(len(reread(code)[0][2]), 1)

    def test_a_step_0_that_is_led_to(self):
        code = (function(TICK, ("load", "n0", 0), ("sub", "n0", ("n0", 1)), ("store", 0, "n0"), ("branch", "n0", 0), ("give", (("n", 0),)), takes="n", results="n"),)
        self.assert_read(code, (3,), (1,), (0,))

    def test_jumps(self):
        """Chains of jumps, a jump at step 0, a jump to the next step, ones that are not come to."""
        self.assert_read((function(("jump", 3), GIVE, ("jump", 5), ("jump", 2), GIVE, GIVE),), ())
        self.assert_read((function(("jump", 1), ("jump", 2), ("jump", 3), GIVE),), ())
        self.assert_read((function(GIVE, ("jump", 1)),), ())
        self.assert_read((function(("jump", 2), ("jump", 0), TICK, ("load", "n0", 0), ("branch", "n0", 1), GIVE, takes="n"),), (0,), (1,))

    def test_branches(self):
        code = (function(("load", "n0", 0), ("branch", "n0", 4), ("branch", 0, 4), ("branch", 1, 5), ("give", (1,)), ("give", (2,)), takes="n", results="n"),)
        self.assert_read(code, (0,), (1,))
        # Both ways lead to the same step.
        self.assert_read((function(("load", "n0", 0), ("branch", "n0", 2), ("give", ("n0",)), takes="n", results="n"),), (0,), (1,))
        # Behind a branch comes a jump, and both lead to the same step.
        self.assert_read((function(("load", "n0", 0), ("branch", "n0", 3), ("jump", 3), ("give", ("n0",)), takes="n", results="n"),), (0,), (1,))

    def test_going_on_into_a_step_that_is_led_to(self):
        code = (function(("load", "n0", 0), ("branch", "n0", 3), ("copy", "n0", (5,)), ("add", "n0", ("n0", 1)), ("give", ("n0",)), takes="n", results="n"),)
        self.assert_read(code, (0,), (1,))

    def test_calls(self):
        g = function(("load", "n0", 0), ("mul", "n0", ("n0", "n0")), ("give", ("n0", ("r", 1), ("n", 0))), word="g", takes="nr", results="nrn")
        for cells in ((("n", 2), ("r", 3), ("n", 4)), (("n", 0), ("r", 1), ("n", 2)), (("n", 1), ("r", 0), ("n", 2))):
            last = ("give", cells)
            f = function(("call", 1, (("n", 0), ("r", 1)), cells), last, takes="nr", results="nrn", cells=5)
            self.assert_read((f, g), (3, (4,)))
            # Behind the call comes a jump.
            f = function(("call", 1, (("n", 0), ("r", 1)), cells), ("jump", 3), TICK, last, takes="nr", results="nrn", cells=5)
            self.assert_read((f, g), (3, (4,)))

    def test_results_where_other_ways_come_to(self):
        """The step behind a call is led to by a jump, and by other calls with other cells."""
        g = function(("give", (7,)), word="g", takes="", results="n")
        f = function(("load", "n0", 0), ("store", 1, "n0"), ("store", 2, "n0"), ("branch", "n0", 6), ("call", 1, (), (("n", 1),)), ("jump", 10), ("sub", "n0", ("n0", 1)),
                     ("branch", "n0", 10), ("call", 1, (), (("n", 2),)), ("jump", 10), ("give", (("n", 1), ("n", 2))), takes="n", results="nn", cells=3)
        self.assert_read((f, g), (0,), (1,), (2,))
        none = function(GIVE, word="g")
        self.assert_read((function(("load", "n0", 0), ("branch", "n0", 3), ("call", 1, (), ()), GIVE, takes="n"), none), (0,), (1,))

    def test_a_call_at_step_0_that_goes_on_there(self):
        f = function(("call", 1, (("n", 0),), (("n", 0),)), ("load", "n0", 0), ("branch", "n0", 0), ("give", (("n", 0),)), takes="n", results="n")
        g = function(("load", "n0", 0), ("sub", "n0", ("n0", 1)), ("give", ("n0",)), word="g", takes="n", results="n")
        self.assert_read((f, g), (1,), (3,), (0,))
        # The step behind the call is step 0 itself, by a jump.
        f = function(("call", 1, (("n", 0),), (("n", 0),)), ("jump", 0), takes="n", results="n")
        self.assert_read((f, g), (3,))

    def test_cells_of_unlike_kinds(self):
        code = (function(("load", "n0", 0), ("make", "r0", ("n0", 2)), ("store", 0, "r0"), ("load", "r1", 0), ("size", "n1", ("r1",)), ("store", 0, "n1"), ("give", (("n", 0), "r1")),
                         takes="n", results="nr"),)
        self.assert_read(code, (3,))

    def test_steps_that_cannot_be_come_to(self):
        code = (function(("give", (1,)), ("need", "bad", "n5"), ("jump", 1), ("load", "r0", 0), results="n", cells=1),)
        self.assert_read(code, ())


class CountsTest(RereadCase):
    def test_branches(self):
        """150 branches that each lead to a step of their own, and 600 steps."""
        steps = []
        for k in range(150):
            steps += [("load", "n0", 0), ("same", "n0", ("n0", k)), ("branch", "n0", 450 + k)]
        steps += [TICK] * 149 + [("give", (("n", 0),))]
        code = (function(*steps, takes="n", results="n"),)
        self.assertEqual(len(steps), 600)
        self.assert_read(code, (0,), (7,), (149,), (150,), bounds=(0, 148, 149))

    def test_calls(self):
        """150 calls with results in one of two cells."""
        steps = [("load", "n0", 0), ("store", 1, "n0"), ("store", 2, "n0")]
        for k in range(149):
            steps += [("call", 1, (("n", 1 + k % 2),), (("n", 1 + (k + 1) % 2),))]
        steps += [("copy", "n7", (1,))] * (600 - len(steps) - 2) + [("call", 1, (1,), (("n", 2),)), ("give", (("n", 1),))]
        g = function(("load", "n0", 0), ("add", "n0", ("n0", 1)), ("give", ("n0",)), word="g", takes="n", results="n")
        self.assert_read((function(*steps, takes="n", results="n", cells=3), g), (0,), (5,), bounds=(149, 150))

    def test_calls_and_jumps(self):
        """Behind each call a branch leads, too, so that the results come by a block of their own."""
        steps = [("load", "n0", 0), ("store", 1, "n0")]
        for k in range(75):
            steps += [("load", "n0", 1), ("same", "n0", ("n0", 7)), ("branch", "n0", len(steps) + 4), ("call", 1, (("n", 1),), (("n", 1),))]
        steps += [("give", (("n", 1),))]
        g = function(("load", "n0", 0), ("add", "n0", ("n0", 1)), ("give", ("n0",)), word="g", takes="n", results="n")
        self.assert_read((function(*steps, takes="n", results="n", cells=2), g), (0,), (7,), (-67,), (-68,), (8,), bounds=(0, 6, 7, 73, 74, 75))

    def test_cells_and_takes(self):
        takes = "nr" * 32
        code = (function(("load", "n0", 62), ("store", 9999, "n0"), ("load", "r0", 63), ("store", 9998, "r0"), ("give", (("n", 9999), ("r", 9998), ("n", 0), ("r", 1))),
                         takes=takes, results="nrnr", cells=10000),)
        self.assert_read(code, tuple(k if kind == "n" else (k,) for k, kind in enumerate(takes)))

    def test_six_functions(self):
        code = tuple(function(("call", (k + 1) % 6, (("n", 0),), (("n", 0),)), ("give", (("n", 0),)), word="abcdef"[k], takes="n", results="n") for k in range(6))
        self.asked(code, lambda number: (3,))


class DrawnTest(RereadCase):
    def test_by_chance(self):
        for seed in range(200):
            maker = CodeMaker(seed, pieces=1 + seed % 14, steps=1 + seed % 9)
            code = maker.code()
            self.asked(code, lambda number: maker.values(code, number))

    def test_bent_but_right(self):
        right = 0
        for seed in range(150):
            maker = CodeMaker(seed, pieces=1 + seed % 10, steps=1 + seed % 7)
            code = maker.code()
            for k in range(6):
                bent = bent_code(code, maker.chance)
                if second_right_code(bent) is None:
                    code = bent
                    right += 1
                    self.asked(code, lambda number: maker.values(code, number), (0, 1, 4))
        self.assertGreater(right, 300)

    def test_large(self):
        for seed in range(6):
            maker = CodeMaker(seed, functions=2, pieces=60, steps=6)
            code = maker.code()
            if all(len(told[4]) <= 600 for told in code):
                self.asked(code, lambda number: maker.values(code, number), (0, 5, 30))


if __name__ == "__main__":
    unittest.main()
