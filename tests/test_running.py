"""Points 18 and 21: the middle's runner."""

import copy
import unittest

from middles import MiddleMaker, second_right, second_run

from samepaper.middle import right_middle
from samepaper.running import run

DRY = ("dry",)
TICK = ("tick",)

# Counts n0 down to 0 and gives how often, by a ring of one tick a round.
LOOP = (("loop", "n", (
    (("n0",), (("n1", "copy", (0,)),), ("go", 1, ())),
    ((), (), ("fork", "n0", 2, (), 3, ())),
    ((), (TICK, ("n0", "sub", ("n0", 1)), ("n1", "add", ("n1", 1))), ("go", 1, ())),
    ((), (), ("give", ("n1",))),
)),)

# Calls itself n0 deep, and adds one on the way back.
DEEP = (("deep", "n", (
    (("n0",), (), ("fork", "n0", 1, (), 2, ())),
    ((), (("n1", "sub", ("n0", 1)),), ("call", 0, ("n1",), 3, ("n0",))),
    ((), (), ("give", (0,))),
    (("n2", "n3"), (("n4", "sub", ("n3", "n1")), ("n2", "add", ("n2", "n4"))), ("give", ("n2",))),
)),)


class RunningTest(unittest.TestCase):
    def assert_run(self, outcome, middle, values=(), bound=0, function=0):
        right_middle(middle)
        kept = copy.deepcopy(middle)
        told = run(middle, function, values, bound)
        self.assertEqual(told, outcome)
        self.assertIs(type(told), tuple)
        if told[0] == "back":
            self.assertIs(type(told[1]), tuple)
        self.assertEqual(middle, kept)

    def assert_row(self, row, value, values=(0, ())):
        name = row[0]
        self.assert_run(("back", (value,)), (("f", name[0], ((("n0", "r0"), (row,), ("give", (name,))),)),), values)

    def test_each_operation(self):
        row = (4, 5, 6)
        for told, value in [
            (("n1", "add", ("n0", 1)), 8), (("n1", "sub", ("n0", 9)), -2), (("n1", "mul", ("n0", 10000)), 4464),
            (("n1", "div", ("n0", 2)), 3), (("n1", "div", ("n0", 0)), 0), (("n1", "div", (-32768, -1)), -32768),
            (("n1", "rest", (-7, 2)), 1), (("n1", "rest", ("n0", 0)), 7), (("n1", "less", ("n0", 8)), 1),
            (("n1", "same", ("n0", 8)), 0), (("n1", "pick", ("n0", 1, 2)), 1), (("n1", "pick", (0, 1, "n0")), 7),
            (("n1", "copy", ("n0",)), 7), (("n0", "copy", (-1,)), -1), (("n0", "add", ("n0", "n0")), 14),
            (("n1", "at", ("r0", 2)), 6), (("n1", "at", ("r0", "n0")), 0), (("n1", "at", ("r0", -1)), 0),
            (("n1", "size", ("r0",)), 3), (("r1", "put", ("r0", 0, "n0")), (7, 5, 6)), (("r0", "put", ("r0", 3, 1)), row),
            (("r1", "many", (41, 1)), (1,) * 40), (("r1", "many", (-1, 1)), ()), (("r1", "make", ("n0", 1)), (7, 1)),
            (("r1", "make", ()), ()), (("r1", "keep", ("r0",)), row),
        ]:
            self.assert_row(told, value, (7, row))

    def test_gives(self):
        for results, args, values in [("", (), ()), ("n", (5,), (5,)), ("nrnr", ("n0", "r0", 1, "r0"), (7, (1,), 1, (1,)))]:
            self.assert_run(("back", values), (("f", results, ((("n0", "r0"), (), ("give", args)),)),), (7, (1,)))

    def test_need(self):
        for operand, outcome in [(0, ("fault", "bad")), (1, ("back", ())), ("n0", ("fault", "bad")), ("n1", ("back", ())),
                                 (-32768, ("back", ()))]:
            middle = (("f", "", ((("n0", "n1"), (("need", "bad", operand),), ("give", ())),)),)
            self.assert_run(outcome, middle, (0, -1))

    def test_the_first_fault_or_dry(self):
        def told(*rows):
            return (("f", "", (((), rows, ("give", ())),)),)
        self.assert_run(("fault", "one"), told(("need", "one", 0), ("need", "two", 0)))
        self.assert_run(("fault", "two"), told(("need", "one", 5), ("need", "two", 0)))
        self.assert_run(("fault", "one"), told(("need", "one", 0), TICK))
        self.assert_run(DRY, told(TICK, ("need", "one", 0)))
        self.assert_run(("fault", "one"), told(TICK, ("need", "one", 0)), bound=1)

    def test_ticks(self):
        middle = (("f", "", (((), (TICK, TICK, TICK), ("give", ())),)),)
        for bound in range(6):
            self.assert_run(("back", ()) if bound >= 3 else DRY, middle, bound=bound)

    def test_args_are_laid_all_at_once(self):
        middle = (("f", "nnn", (
            (("n0", "n1", "n2"), (), ("go", 1, ("n1", "n2", "n0"))),
            (("n0", "n1", "n2"), (), ("fork", "n0", 2, ("n2", "n1", "n0"), 3, ("n2", 9, "n2"))),
            (("n0", "n1", "n2"), (), ("give", ("n0", "n1", "n2"))),
            (("n2", "n1", "n0"), (), ("give", ("n0", "n1", "n2"))),
        )),)
        self.assert_run(("back", (1, 3, 2)), middle, (1, 2, 3))
        self.assert_run(("back", (1, 9, 1)), middle, (1, 0, 3))

    def test_forks(self):
        for operand, told in [(1, 5), (-1, 5), (0, 6), ("n0", 6), ("n1", 5)]:
            middle = (("f", "n", (
                (("n0", "n1"), (), ("fork", operand, 1, (5,), 2, (6,))),
                (("n2",), (), ("give", ("n2",))),
                (("n3",), (), ("give", ("n3",))),
            )),)
            self.assert_run(("back", (told,)), middle, (0, 2))

    def test_loop(self):
        for bound in range(9):
            self.assert_run(("back", (5,)) if bound >= 5 else DRY, LOOP, (5,), bound)
        self.assert_run(("back", (0,)), LOOP, (0,), 0)
        self.assert_run(("back", (32767,)), LOOP, (32767,), 10 ** 6)

    def test_calls_lay_results_then_more(self):
        middle = (
            ("f", "nnnn", (
                (("n0",), (("n5", "copy", (50,)),), ("call", 1, ("n0", 2), 1, ("n0", 9))),
                (("n1", "n0", "n2", "n3"), (), ("give", ("n1", "n0", "n2", "n3"))),
            )),
            ("g", "nn", ((("n9", "n0"), (("n5", "copy", (-1,)),), ("give", ("n0", "n9"))),)),
        )
        self.assert_run(DRY, middle, (7,), 0)
        self.assert_run(("back", (2, 7, 7, 9)), middle, (7,), 1)

    def test_frames_of_their_own(self):
        middle = (
            ("f", "nr", (
                (("n0", "r0"), (("n5", "copy", (50,)),), ("call", 1, (1,), 1, ())),
                ((), (("n0", "add", ("n0", "n5")),), ("give", ("n0", "r0"))),
            )),
            ("g", "", ((("n5",), (("n0", "copy", (-1,)), ("r0", "make", (8, 8))), ("give", ())),)),
        )
        self.assert_run(("back", (57, (1,))), middle, (7, (1,)), 1)

    def test_faults_and_dry_within_calls(self):
        middle = (
            ("f", "", (((), (), ("call", 1, (0,), 1, ())), ((), (), ("give", ())))),
            ("g", "", ((("n0",), (TICK, ("need", "deep", "n0")), ("give", ())),)),
        )
        for bound, outcome in [(0, DRY), (1, DRY), (2, ("fault", "deep")), (9, ("fault", "deep"))]:
            self.assert_run(outcome, middle, bound=bound)
        self.assert_run(("back", ()), middle, (3,), 1, function=1)

    def test_deep_calls(self):
        self.assert_run(("back", (30000,)), DEEP, (30000,), 30000)
        self.assert_run(DRY, DEEP, (30000,), 29999)
        self.assert_run(("back", (3,)), DEEP, (3,), 10 ** 6)

    def test_a_million(self):
        endless = (("f", "", (((), (), ("call", 0, (), 1, ())), ((), (), ("give", ())))),)
        self.assert_run(DRY, endless, bound=10 ** 6)
        ring = (("f", "", (((), (), ("go", 1, ())), ((), (TICK,), ("go", 1, ())))),)
        self.assert_run(DRY, ring, bound=10 ** 6)

    def test_by_chance(self):
        seen = set()
        for seed in range(6000):
            maker = MiddleMaker(seed)
            middle = maker.middle()
            if second_right(middle) is not None:
                continue
            for number, function in enumerate(middle):
                values = tuple(maker.value(name) for name in function[2][0][0])
                ends = set()
                for bound in range(25):
                    outcome = run(middle, number, values, bound)
                    self.assertEqual(outcome, second_run(middle, number, values, bound), (middle, number, values, bound))
                    if outcome != DRY:
                        ends.add(outcome)
                    # Never dry again from the ticks on that a run takes.
                    self.assertTrue(outcome in ends or not ends)
                    seen.add(outcome[0])
                self.assertLessEqual(len(ends), 1)
        self.assertEqual(seen, {"back", "fault", "dry"})


if __name__ == "__main__":
    unittest.main()
