"""Point 50, and the whole document once more: a source's text through all makers, to code."""

import unittest

from codes import as_code_tells, second_right_code, second_run_code
from making import MadeCase
from promises import (all_come_to, calls_left, faces, second_boxed, second_once, second_slight, second_small, slight_together, unbare,
                      unfolded, unmoved, unshared)
from sources import Maker
from sources import second_run as second_run_source

from samepaper.bare import bare
from samepaper.boxing import boxed
from samepaper.chain import borne, built
from samepaper.code import right_code
from samepaper.coding import coded
from samepaper.engine import run_code
from samepaper.errors import NoKind, NoText
from samepaper.folding import folded
from samepaper.in_place import in_place
from samepaper.joining import joined, own_paper
from samepaper.kinds import kinded, parts_of
from samepaper.laying import flat, laid, unflat
from samepaper.middle import right_middle
from samepaper.moving import moved_out
from samepaper.once import once
from samepaper.reading import read
from samepaper.reread import reread
from samepaper.running import run
from samepaper.sharing import shared
from samepaper.showing import shown
from samepaper.walking import run_source

ALL_COUNTS = tuple((numbers, rows) for numbers in range(3, 9) for rows in range(1, 5))
BOUNDS = (0, 1, 2, 3, 5, 9, 40)


class ChainCase(MadeCase):
    def built(self, text, counts, second=True):
        """What the chain tells of a right source's text, asked for all that is promised of it."""
        told = built(text, *counts)
        self.assertIs(type(told), tuple)
        tree, steps, code = told
        self.assertEqual(tree, read(text))
        self.assertIs(type(steps), list)
        self.assertEqual([type(step) for step in steps], [tuple] * 9)
        self.assertEqual([len(step) for step in steps], [2] * 9)
        self.assertIsNone(steps[0][1])
        for (one, ahead), (other, paper) in zip(steps, steps[1:]):
            self.assertIs(right_middle(other), True)
            self.assertEqual(faces(other), faces(one))
            self.assert_let_by(one, other, paper)
        self.ask_forms([middle for middle, paper in steps], counts)
        self.assertIs(right_code(code), True)
        self.assertIsNone(second_right_code(code) if second else None)
        self.assertEqual(steps[8][0], reread(code))
        self.assertEqual([function[:3] for function in code], as_code_tells(steps[0][0]))
        self.assertEqual([function[0] for function in code], [function[0] for function in tree[1]])
        return tree, steps, code

    def ask_forms(self, middles, counts):
        """Each step is of its maker's told form."""
        first, placed, onced, fold, share, moved, bared, box, last = middles
        self.assertTrue(all(second_small(middle) for middle in middles[:7]))
        self.assertTrue(all(second_once(middle) for middle in middles[2:7]))
        for number in range(len(first)):
            self.assertTrue(not slight_together(first, number) or not calls_left(first, placed, number))
            self.assertTrue(not second_slight(fold[number]) or unshared(share[number]) is None)
            self.assertTrue(not second_slight(share[number]) or isinstance(unmoved(share[number], moved[number]), int))
        self.assertTrue(all_come_to(onced) and all_come_to(fold) and all_come_to(bared))
        self.assertIsNone(unfolded(fold))
        self.assertIsNone(unbare(bared))
        self.assertTrue(second_boxed(box, *counts))

    def assert_runs(self, told, name, values, bounds=BOUNDS):
        """The source, each middle and the code tell alike; the outcomes are told."""
        tree, steps, code = told
        number = [function[0] for function in tree[1]].index(name)
        word, kind, parameters, body = tree[1][number]
        given = tuple(part for (parameter, k), value in zip(parameters, values) for part in flat(tree, k, value))
        outcomes = []
        for bound in bounds:
            outcome = run_source(tree, name, values, bound)
            self.assertEqual(second_run_source(tree, name, values, bound), outcome)
            if outcome[0] == "back":
                self.assertEqual(unflat(tree, kind, flat(tree, kind, outcome[1])), outcome[1])
                outcome = ("back", flat(tree, kind, outcome[1]))
            for middle, paper in steps:
                self.assertEqual(run(middle, number, given, bound), outcome)
            self.assertEqual(run_code(code, number, given, bound), outcome)
            self.assertEqual(second_run_code(code, number, given, bound), outcome)
            outcomes.append(outcome)
        return outcomes

    def assert_borne(self, steps):
        """The papers laid end to end are let by, or None as soon as joining tells so."""
        paper = borne(steps)
        told = steps[1][1]
        for middle, later in steps[2:]:
            told = None if told is None else joined(steps[0][0], told, later)
        self.assertEqual(paper is None, told is None)
        if paper is not None:
            self.assert_let_by(steps[0][0], steps[-1][0], paper)
        return paper is not None


SUMS = """record pair x num y num
function sum num a row
let s 0
let k 0
while less k size a
set s add s at a k
set k add k 1
end
give s
end
function two pair p pair n num
let q p
while n
set q.x add q.x mul p.y 3
set q.y call sum 1 make 3 q.x p.y n
set n sub n 1
end
give q
end
function fact num n num
if less n 2
give 1
end
give mul n call fact 1 sub n 1
end"""


class BuiltTest(ChainCase):
    def test_a_source(self):
        for counts in ALL_COUNTS:
            told = self.built(SUMS, counts)
            self.assertEqual(self.assert_runs(told, "sum", ((4, 5, 6),), (2, 3)), [("dry",), ("back", (15,))])
            self.assertEqual(self.assert_runs(told, "fact", (7,), (5, 6)), [("dry",), ("back", (5040,))])
            self.assert_runs(told, "two", ((1, 2), 3), range(20))
            self.assertTrue(self.assert_borne(told[1]))

    def test_the_order_of_the_makers(self):
        tree, steps, code = built(SUMS, 4, 2)
        expected = [(laid(tree), None)]
        for maker in (in_place, once, folded, shared, moved_out, bare):
            expected.append(maker(expected[-1][0]))
        expected.append(boxed(expected[-1][0], 4, 2))
        again, paper = coded(expected[-1][0], 4, 2)
        self.assertEqual(again, code)
        self.assertEqual(steps, expected + [(reread(code), paper)])
        # The loop's row is moved out of it, and the call in it put in place.
        self.assertGreater(len(steps[5][0][1][2]), len(steps[4][0][1][2]))
        self.assertTrue(any(end[0] == "call" for params, rows, end in steps[0][0][1][2]))
        self.assertFalse(any(end[0] == "call" for params, rows, end in steps[1][0][1][2]))

    def test_what_is_told_is_the_askers_own(self):
        first = built(SUMS, 3, 1)
        kept = list(first[1])
        first[1].clear()
        self.assertEqual(built(SUMS, 3, 1)[1], kept)
        steps = list(kept)
        borne(steps)
        self.assertEqual(steps, kept)

    def test_deep_calls(self):
        text = "function f num a num\nif a\ngive add 1 call f 1 sub a 1\nend\ngive 0\nend\nfunction g num a num\ngive add call g 1 add a 1 1\nend"
        tree, steps, code = built(text, 3, 1)
        for bound, outcome in ((29999, ("dry",)), (30000, ("back", (30000,)))):
            self.assertEqual(run_code(code, 0, (30000,), bound), outcome)
            self.assertEqual(run(steps[0][0], 0, (30000,), bound), outcome)
            self.assertEqual(run(steps[8][0], 0, (30000,), bound), outcome)
        self.assertEqual(run_source(tree, "f", (30000,), 30000), ("back", 30000))
        self.assertEqual(run_code(code, 1, (0,), 10 ** 6), ("dry",))

    def test_faults(self):
        text = "function f num a num b row\nlet c div 10 a\nput b c 3\nlet d many c 7\ngive add at b a size d\nend"
        told = self.built(text, (3, 1))
        for a in (0, 1, 2, 3, 5, 10, 11, -1, -10):
            for b in ((), (1,), (1, 2, 3, 4, 5, 6)):
                self.assert_runs(told, "f", (a, b), (0,))

    def test_functions_that_are_put_in_place(self):
        text = """record four a num b row c num d row
function f four p four q four
let v call g 2 p q
set v call g 2 v v
while less v.a 20
set v call g 2 q v
end
give v
end
function g four p four q four
if less p.a q.a
give new four 4 add p.a 1 q.b p.c q.d
end
give new four 4 add q.a 3 put p.b 0 q.c q.c p.d
end"""
        for counts in ((3, 1), (8, 4)):
            told = self.built(text, counts)
            for a in (1, 5):
                self.assert_runs(told, "f", ((a, (1, 2), 3, ()), (4 - a, (7,), 5, (6,))), range(0, 30, 4))
            self.assert_borne(told[1])


FOUR = "record four a num b row c num d row\n"
HEAD = "function f num p four q four s four t four"
HEAVY = "at p.b at p.b at p.b at p.b at p.b 0"


class CountsTest(ChainCase):
    """Sources at the told counts of points 8 and 9."""

    def ask(self, lines, more=""):
        text = FOUR + "\n".join([HEAD, *lines, "end"]) + more
        for counts in ((3, 1), (8, 4)):
            told = self.built(text, counts, second=False)
            for row in ((2, 3), (0, 1), (1, 0)):
                self.assert_runs(told, "f", ((1, row, 4, (5,)),) * 4, (0, 3, 20))
            self.assert_borne(told[1])

    def test_sixteen_statements_of_long_lines(self):
        self.ask([f"let v{c} {HEAVY}" for c in "abcde"] + ["put q.b at p.b at p.b at p.b 0 at p.b at p.b 0"] * 10 + [f"give {HEAVY}"])

    def test_makes_of_eight(self):
        self.ask([f"let v{c} make 8 p.a p.a p.c p.c q.a q.a q.c q.c" for c in "abcde"]
                 + ["set s.b make 8 p.a q.a p.c q.c size s.b q.a p.c s.c"] * 10 + ["give size s.b"])

    def test_eight_whiles_within_one_another(self):
        self.ask([f"let v{c} {HEAVY}" for c in "abcde"] + [f"while {HEAVY}"] * 8 + ["set p.b make 2 0 0"] + ["end"] * 8 + [f"set p.a {HEAVY}", f"give {HEAVY}"])

    def test_four_ifs_with_else(self):
        forks = [f"if {HEAVY}", f"set p.a {HEAVY}", "else", f"set p.c {HEAVY}", "end"] * 4
        self.ask(forks + [f"let v{c} {HEAVY}" for c in "ab"] + [f"set p.a {HEAVY}", f"give {HEAVY}"])

    def test_calls_of_records(self):
        lines = [f"let v{c} new four 4 p.a q.b s.c t.d" for c in "abcde"]
        lines += ["set va call g 3 call h 0 call h 0 call h 0", "set vb call g 3 vc vd call h 0", "set vc call g 3 ve call h 0 p",
                  "set p new four 4 va.c vb.d vc.a vd.b", "give p.a"]
        self.ask(lines, "\nfunction g four p four q four s four\ngive new four 4 p.a q.b s.c q.d\nend\nfunction h four\ngive new four 4 1 make 1 2 3 make 0\nend")

    def test_six_functions(self):
        for text in ("\n".join(f"function {word} num a num\nlet b add a 1\nwhile less b 5\nset b call {to} 1 b\nset b add b 1\nend\ngive b\nend"
                               for word, to in zip("abcdef", "bcdefa")),
                     "\n".join(f"function {word} num a num\ngive mul a call {to} 1 sub a 1\nend" for word, to in zip("abcde", "bcdef"))
                     + "\nfunction f num a num\ngive rest a 7\nend"):
            told = self.built(text, (3, 1))
            for word in "abcdef":
                self.assert_runs(told, word, (3,), (0, 4, 5, 6, 60))


class RefusedTest(unittest.TestCase):
    def test_texts_that_are_none(self):
        for text, line in (("", 0), ("give 1", 0), ("function f num\ngive 1", 2), ("function f num\ngive\nend", 1), ("function f num\ngive 1\nend\n", 3), ("function f num\ngive  1\nend", 1)):
            with self.assertRaises(NoText) as caught:
                built(text, 3, 1)
            self.assertEqual(caught.exception.line, line)

    def test_trees_that_are_not_right(self):
        for text, line, word in (("function f num\ngive a\nend", 1, 1), ("function f num a row\ngive a\nend", 1, 1), ("function f num\nlet a 1\nend", 2, 0),
                                 ("function f num\ngive call g 0\nend", 1, 2), ("record p x num x num\nfunction f num\ngive 1\nend", 0, 4)):
            with self.assertRaises(NoKind) as caught:
                built(text, 8, 4)
            self.assertEqual((caught.exception.line, caught.exception.word), (line, word))

    def test_a_refusal_changes_nothing(self):
        kept = built(SUMS, 3, 1)
        for text in ("give 1", "function f num\ngive a\nend"):
            with self.assertRaises((NoText, NoKind)):
                built(text, 3, 1)
        self.assertEqual(built(SUMS, 3, 1), kept)


class BorneTest(ChainCase):
    def test_fewer_steps(self):
        tree, steps, code = built(SUMS, 3, 1)
        for many in range(2, 10):
            self.assertTrue(self.assert_borne(steps[:many]))
        self.assert_let_by(steps[0][0], steps[0][0], borne(steps[:1]))
        self.assertEqual(borne(steps[:2]), steps[1][1])

    def test_where_joining_tells_none(self):
        """Behind another step a paper whose places have several frames can't be laid on."""
        tree, steps, code = built(SUMS, 3, 1)
        first = steps[0][0]
        self.assertIsNone(borne([(first, None), (first, own_paper(first)), steps[1]]))
        self.assertIsNone(borne([(first, None), (first, own_paper(first)), *steps[1:]]))


class DrawnTest(ChainCase):
    """The whole document once more, over drawn sources."""

    def test_by_chance(self):
        outcomes, many = {"back": 0, "fault": 0, "dry": 0}, 0
        for seed in range(120):
            maker = Maker(seed)
            text = maker.source()
            tree = read(text)
            self.assertEqual(shown(tree), text)
            self.assertIs(kinded(tree), True)
            told = self.built(text, ALL_COUNTS[seed % len(ALL_COUNTS)])
            many += self.assert_borne(told[1])
            for word, kind, parameters, body in tree[1]:
                self.assertEqual(told[1][0][0][[f[0] for f in tree[1]].index(word)][1], parts_of(tree, kind))
                for outcome in self.assert_runs(told, word, maker.values(word)):
                    outcomes[outcome[0]] += 1
        self.assertGreater(min(outcomes.values()), 100, outcomes)
        # Not all have to be borne from end to end, but nearly all are.
        self.assertGreater(many, 100)

    def test_all_counts_of_one_source(self):
        for seed in range(500, 503):
            maker = Maker(seed)
            text = maker.source()
            for counts in ALL_COUNTS:
                told = self.built(text, counts)
                for function in told[0][1]:
                    self.assert_runs(told, function[0], maker.values(function[0]), (0, 4, 15))


if __name__ == "__main__":
    unittest.main()
