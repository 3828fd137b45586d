"""Points 13 and 22: values laid flat, and sources laid as middles."""

import copy
import itertools
import unittest

from promises import faces, second_small
from sources import Maker

from samepaper.kinds import kinded, parts_of
from samepaper.laying import flat, laid, unflat
from samepaper.middle import right_middle
from samepaper.reading import read
from samepaper.running import run
from samepaper.walking import run_source

RECORDS = """record pair x num y num
record mix a row b pair
record last m mix
record four a num b num c row d num
function f num
give 0
end"""


class FlatTest(unittest.TestCase):
    def test_each_kind(self):
        tree = read(RECORDS.replace("record last m mix\n", "record last m mix n num\n"))
        for kind, value, parts in (
            ("num", 5, (5,)), ("row", (1, 2), ((1, 2),)), ("row", (), ((),)), ("pair", (1, -2), (1, -2)),
            ("mix", ((7,), (1, 2)), ((7,), 1, 2)), ("last", (((), (1, 2)), 9), ((), 1, 2, 9)),
            ("four", (1, 2, (3, 4), 5), (1, 2, (3, 4), 5)),
        ):
            self.assertEqual(flat(tree, kind, value), parts)
            self.assertEqual(unflat(tree, kind, parts), value)
            self.assertIs(type(flat(tree, kind, value)), tuple)
            self.assertIs(type(unflat(tree, kind, parts)), type(value))
            self.assertEqual(len(parts), len(parts_of(tree, kind)))

    def test_records_of_one_field_within_one_another(self):
        tree = read("record a x num\nrecord b y a\nrecord c z b\nrecord d w c\nfunction f num\ngive 0\nend")
        self.assertEqual(flat(tree, "d", ((((5,),),),)), (5,))
        self.assertEqual(unflat(tree, "d", (5,)), ((((5,),),),))

    def test_by_chance(self):
        for seed in range(300):
            maker = Maker(seed)
            tree = read(maker.source())
            for kind in ("num", "row", *maker.records):
                value = maker.value(kind)
                parts = flat(tree, kind, value)
                self.assertEqual(unflat(tree, kind, parts), value)
                self.assertEqual("".join("n" if isinstance(p, int) else "r" for p in parts), parts_of(tree, kind))


class LaidCase(unittest.TestCase):
    def laid_right(self, text):
        tree = read(text)
        kinded(tree)
        kept = copy.deepcopy(tree)
        middle = laid(tree)
        self.assertEqual(tree, kept)
        self.assertTrue(right_middle(middle))
        self.assertTrue(second_small(middle))
        told = [(name, "".join(parts_of(tree, k) for p, k in params), parts_of(tree, kind))
                for name, kind, params, body in tree[1]]
        self.assertEqual(faces(middle), told)
        return tree, middle

    def assert_runs(self, tree, middle, name, values, bounds=(0, 1, 2, 5, 100)):
        """All bounds are asked: those told, and those around the ticks that the run takes."""
        number = [function[0] for function in tree[1]].index(name)
        function = tree[1][number]
        parts = tuple(p for (n, kind), value in zip(function[2], values) for p in flat(tree, kind, value))
        least = next((b for b in range(25) if run_source(tree, name, values, b) != ("dry",)), 25)
        outcome = None
        for bound in (*bounds, max(0, least - 1), least, least + 1):
            outcome = run_source(tree, name, values, bound)
            if outcome[0] == "back":
                outcome = ("back", flat(tree, function[1], outcome[1]))
            self.assertEqual(run(middle, number, parts, bound), outcome, (values, bound))
        return outcome


class LaidTest(LaidCase):
    def test_a_small_source(self):
        tree, middle = self.laid_right("function twice num a num\ngive add a a\nend")
        self.assertEqual(self.assert_runs(tree, middle, "twice", (21,)), ("back", (42,)))

    def test_each_statement_and_expression(self):
        tree, middle = self.laid_right("""record pair x num y row
function f num a num p pair
let v new pair 2 a p.y
while less a 5
set a add a 1
put v.y 0 mul a 2
if same a 3
set v.x call g 2 v a
else
set v.x pick a v.x not a
end
end
if or less a 0 and a at v.y 1
give v.x
end
give size v.y
end
function g num p pair a num
if a
give add p.x rest at p.y 0 a
else
give div p.x a
end
end""")
        for a in (-2, 0, 2, 3, 4, 5, 32767):
            for row in ((), (4,), (4, 0), (4, 7, 1)):
                self.assert_runs(tree, middle, "f", (a, (9, row)))
                self.assert_runs(tree, middle, "g", ((9, row), a))

    def test_faults(self):
        for expr, word in (("div 1 a", "nought"), ("rest 1 a", "nought"), ("at make 1 5 b", "range"),
                           ("size put make 2 5 6 b 0", "range"), ("size many b 1", "long")):
            tree, middle = self.laid_right(f"function f num a num b num\ngive {expr}\nend")
            outcomes = {self.assert_runs(tree, middle, "f", (a, b)) for a in (0, 1) for b in (-32768, -1, 0, 1, 2, 40, 41, 32767)}
            self.assertIn(("fault", word), outcomes)
            self.assertIn("back", {outcome[0] for outcome in outcomes})
        tree, middle = self.laid_right("function f row a row b num\nput a b 7\ngive a\nend")
        for b in (-1, 0, 1, 2):
            self.assert_runs(tree, middle, "f", ((1, 2), b))

    def test_the_first_fault_is_told(self):
        tree, middle = self.laid_right("function f num a row b num\ngive add at a b div 1 b\nend")
        self.assertEqual(self.assert_runs(tree, middle, "f", ((), 0)), ("fault", "range"))
        self.assertEqual(self.assert_runs(tree, middle, "f", ((1,), 0)), ("fault", "nought"))
        tree, middle = self.laid_right("function f num a num\ngive add call f 1 a div 1 a\nend")
        self.assertEqual(self.assert_runs(tree, middle, "f", (0,)), ("dry",))

    def test_and_or(self):
        for word in ("and", "or"):
            tree, middle = self.laid_right(f"function f num a num b num\ngive {word} a {word} div a b b\nend")
            for a in (0, 1, 5, -1):
                for b in (0, 1, -7):
                    self.assert_runs(tree, middle, "f", (a, b))

    def test_a_set_by_the_records_own_fields(self):
        tree, middle = self.laid_right("""record four a num b row c num d row
record pair x num y num
record outer p pair q pair
function turn four p four
set p new four 4 p.c p.d p.a p.b
give p
end
function spin pair p pair
set p new pair 2 p.y add p.x p.y
set p new pair 2 p.x p.x
set p p
give p
end
function deep outer p outer
set p new outer 2 p.q new pair 2 p.p.y p.p.x
set p.p p.q
set p.q.x p.p.y
give p
end""")
        self.assertEqual(self.assert_runs(tree, middle, "turn", ((1, (2,), 3, (4,)),)), ("back", (3, (4,), 1, (2,))))
        self.assertEqual(self.assert_runs(tree, middle, "spin", ((1, 2),)), ("back", (2, 2)))
        self.assertEqual(self.assert_runs(tree, middle, "deep", (((1, 2), (3, 4)),)), ("back", (2, 1, 1, 1)))

    def test_a_ring_of_four_fields(self):
        for order in itertools.product("abcd", repeat=4):
            fields = " ".join("p." + field for field in order)
            tree, middle = self.laid_right(f"""record four a num b num c num d num
function f four p four
set p new four 4 {fields}
give p
end""")
            told = tuple(dict(a=1, b=2, c=3, d=4)[field] for field in order)
            self.assertEqual(run(middle, 0, (1, 2, 3, 4), 0), ("back", told))

    def test_a_variable_is_not_what_was_reckoned_for_another(self):
        tree, middle = self.laid_right("""function f num a num
let b add a 1
let c b
set b mul c 2
give add b c
end""")
        self.assertEqual(self.assert_runs(tree, middle, "f", (4,)), ("back", (15,)))

    def test_a_call_does_not_change_what_was_read_ahead_of_it(self):
        tree, middle = self.laid_right("""function f num a num
if a
give add a mul call f 1 sub a 1 a
end
give 1
end""")
        for a in range(5):
            self.assert_runs(tree, middle, "f", (a,))

    def test_by_chance(self):
        outcomes = {"back": 0, "fault": 0, "dry": 0}
        for seed in range(250):
            maker = Maker(seed)
            tree, middle = self.laid_right(maker.source())
            for function in tree[1]:
                for k in range(3):
                    outcome = self.assert_runs(tree, middle, function[0], maker.values(function[0]))
                    outcomes[outcome[0]] += 1
        self.assertGreater(min(outcomes.values()), 100, outcomes)


FOUR = "record four a num b row c num d row\n"
PARAMS = "p four q four s four t four"
# Eleven words, and the most rows that so many can have.
HEAVY = "at p.b at p.b at p.b at p.b at p.b 0"


class ToldCountsTest(LaidCase):
    """Trees at the told counts of points 8 and 9 are small, too."""

    def assert_small(self, lines):
        text = "\n".join([f"function f num {PARAMS}", *lines, "end"])
        tree, middle = self.laid_right(FOUR + text)
        for row in ((2, 3), (0, 1), (1, 0)):
            self.assert_runs(tree, middle, "f", ((1, row, 4, (5,)),) * 4)
        return middle

    def test_sixteen_statements_of_long_lines(self):
        lines = [f"let v{c} {HEAVY}" for c in "abcde"]
        lines += ["put q.b at p.b at p.b at p.b 0 at p.b at p.b 0"] * 10
        self.assertEqual(len(lines), 15)
        self.assert_small(lines + ["give " + HEAVY])
        lines = [f"let v{c} many at many 1 1 0 at many 2 2 1" for c in "abcde"]
        lines += ["set p.d put many 2 at many 1 1 0 1 at p.b 0"] * 10
        self.assert_small(lines + ["give size p.d"])

    def test_makes_of_eight(self):
        lines = [f"let v{c} make 8 p.a p.a p.c p.c q.a q.a q.c q.c" for c in "abcde"]
        lines += ["set s.b make 8 p.a q.a p.c q.c p.a q.a p.c q.c"] * 10
        self.assert_small(lines + ["give size s.b"])

    def test_five_lets_of_four_parts_and_calls_of_records(self):
        lines = [f"let v{c} new four 4 p.a q.b s.c t.d" for c in "abcde"]
        lines += ["set va call g 3 call h 0 call h 0 call h 0", "set vb call g 3 vc vd call h 0",
                  "set vc call g 3 ve call h 0 p", "set p new four 4 va.c vb.d vc.a vd.b", "give ve"]
        text = "\n".join([f"function f four {PARAMS}", *lines, "end", "function g four p four q four s four",
                          "give new four 4 p.a q.b s.c q.d", "end", "function h four",
                          "give new four 4 1 make 1 2 3 make 0", "end"])
        tree, middle = self.laid_right(FOUR + text)
        for k in range(3):
            self.assert_runs(tree, middle, "f", ((k, (2, 3), 4, (5,)),) * 4, range(12))

    def test_eight_ifs_and_whiles(self):
        for word in ("while", "if"):
            lets = [f"let v{c} {HEAVY}" for c in "abcde"]
            nest = [f"{word} {HEAVY}"] * 8 + ["set p.b make 2 0 0"] + ["end"] * 8
            self.assert_small(lets + nest + [f"set p.a {HEAVY}", f"give {HEAVY}"])
            row = [f"{word} {HEAVY}", "set p.b make 2 0 0", "end"] * 7
            self.assert_small(row + [f"let va {HEAVY}", f"give {HEAVY}"])
        forks = [f"if {HEAVY}", f"set p.a {HEAVY}", "else", f"set p.c {HEAVY}", "end"] * 4
        self.assert_small(forks + [f"let v{c} {HEAVY}" for c in "ab"] + [f"set p.a {HEAVY}", f"give {HEAVY}"])

    def test_eight_calls_ands_ors(self):
        lines = ["set p.a and and and and p.a p.c q.a q.c s.a", "set p.c or or or or p.a p.c q.a 0 s.a"]
        self.assert_small(lines + ["give add p.a p.c"])
        lines = ["set p.a and or and or p.a div 1 p.c q.a q.c s.a", "set p.c or and or and 0 p.c q.a div 1 0 s.a"]
        self.assert_small(lines + ["give add p.a p.c"])
        self.assert_small(["let va add call f 4 p q s t 1", "set va call f 4 s t p q", "set va add call f 4 p p p p va",
                           "set p new four 4 va make 0 va make 0", "set va call f 4 p p p p", "set va call f 4 p q q q",
                           "set va add va call f 4 p q q q", "set va call f 4 p q q q", "give call f 4 t t t t"])

    def test_give_ends_both_bodies(self):
        self.assert_small(["if p.a", "if p.c", "give 1", "else", "give 2", "end", "else", "if q.a", "give 3", "end", "give 4",
                           "end"])

    def test_a_while_whose_body_is_ended(self):
        middle = self.assert_small(["while p.a", "give 5", "end", "give 6"])
        self.assertEqual(run(middle, 0, (0, (), 0, ()) * 4, 0), ("back", (6,)))


if __name__ == "__main__":
    unittest.main()
