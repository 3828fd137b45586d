"""Points 13 to 16: the source's runner."""

import unittest

from sources import Maker, second_run

from samepaper.kinds import kinded
from samepaper.reading import read
from samepaper.showing import shown
from samepaper.walking import run_source

DRY = ("dry",)


def right(text):
    tree = read(text)
    kinded(tree)
    return tree


def fault(word):
    return ("fault", word)


class WalkingTest(unittest.TestCase):
    def assert_gives(self, outcome, e, values=(), head="", bound=0, kind="num", more=""):
        """A function that gives this expression ends so."""
        tree = right(f"function f {kind}{head}\ngive {e}\nend{more}")
        self.assertEqual(run_source(tree, "f", values, bound), outcome, e)

    def assert_runs(self, outcome, body, values=(), head="", bound=0, kind="num", more="", records=""):
        tree = right(f"{records}function f {kind}{head}\n{body}\nend{more}")
        self.assertEqual(run_source(tree, "f", values, bound), outcome, body)

    def test_operations(self):
        for e, number in [
            ("5", 5), ("-32768", -32768), ("add 32767 1", -32768), ("sub -32768 1", 32767), ("mul 300 300", 24464),
            ("div 7 2", 3), ("div -7 2", -4), ("div 7 -2", -4), ("div -32768 -1", -32768), ("rest -7 2", 1),
            ("rest 7 -2", -1), ("rest -32768 -1", 0), ("less 1 2", 1), ("less 2 2", 0), ("same 2 2", 1), ("same 2 -2", 0),
            ("pick 7 1 2", 1), ("pick 0 1 2", 2), ("at make 3 4 5 6 0", 4), ("at make 3 4 5 6 2", 6), ("size make 0", 0),
            ("size many 40 1", 40), ("size many 0 1", 0), ("at many 40 7 39", 7), ("at put make 2 1 2 1 9 1", 9),
            ("not 0", 1), ("not 1", 0), ("not -5", 0),
        ]:
            self.assert_gives(("back", number), e)
        for e, row in [("make 0", ()), ("make 3 1 2 3", (1, 2, 3)), ("many 2 -1", (-1, -1)), ("many 40 0", (0,) * 40),
                       ("put make 2 1 2 0 9", (9, 2)), ("make 8 1 2 3 4 5 6 7 8", (1, 2, 3, 4, 5, 6, 7, 8))]:
            self.assert_gives(("back", row), e, kind="row")

    def test_faults(self):
        for e in ("div 1 0", "rest 1 0", "div 0 0", "rest -32768 0"):
            self.assert_gives(fault("nought"), e)
        for e in ("at make 0 0", "at make 2 1 2 2", "at make 2 1 2 -1", "at make 2 1 2 32767", "size put make 0 0 1",
                  "size put make 2 1 2 2 1", "size put make 2 1 2 -1 1", "at make 2 1 2 -32768"):
            self.assert_gives(fault("range"), e)
        for e in ("size many -1 1", "size many 41 1", "size many 32767 1", "size many -32768 1"):
            self.assert_gives(fault("long"), e)

    def test_and_or(self):
        for one in (0, 1, -3):
            for other in (0, 1, 7):
                self.assert_gives(("back", int(bool(one) and bool(other))), f"and {one} {other}")
                self.assert_gives(("back", int(bool(one) or bool(other))), f"or {one} {other}")

    def test_the_second_is_not_reckoned(self):
        self.assert_gives(("back", 0), "and 0 div 1 0")
        self.assert_gives(("back", 1), "or 5 div 1 0")
        self.assert_gives(fault("nought"), "and 5 div 1 0")
        self.assert_gives(fault("nought"), "or 0 div 1 0")
        self.assert_gives(("back", 0), "and 0 call f 0")
        self.assert_gives(("back", 1), "or 1 call f 0")
        self.assert_gives(DRY, "and 1 call f 0")
        self.assert_gives(DRY, "or 0 call f 0")
        self.assert_gives(fault("nought"), "pick 1 2 div 1 0")

    def test_left_to_right(self):
        self.assert_gives(fault("nought"), "add div 1 0 at make 0 0")
        self.assert_gives(fault("range"), "add at make 0 0 div 1 0")
        self.assert_gives(fault("nought"), "div div 1 0 0")
        self.assert_gives(fault("long"), "at many 41 1 div 1 0")
        self.assert_gives(fault("nought"), "at make 1 1 div 9 0")
        self.assert_gives(DRY, "add call f 0 div 1 0")
        self.assert_gives(fault("nought"), "add div 1 0 call f 0")
        self.assert_gives(fault("nought"), "call g 1 div 1 0", more="\nfunction g num a num\ngive a\nend")
        self.assert_gives(DRY, "call g 1 1", more="\nfunction g num a num\ngive div 1 0\nend")
        self.assert_gives(fault("nought"), "call g 1 1", bound=1, more="\nfunction g num a num\ngive div 1 0\nend")
        self.assert_gives(fault("range"), "size put make 1 1 5 at make 0 0")

    def test_calls_take_a_tick_each(self):
        more = "\nfunction g num a num b num\ngive sub a b\nend"
        for bound in range(5):
            self.assert_gives(("back", 4) if bound >= 2 else DRY, "sub call g 2 9 1 call g 2 5 1", bound=bound, more=more)
        more = "\nfunction g num a num\ngive add a 1\nend"
        for bound in range(6):
            self.assert_gives(("back", 7) if bound >= 3 else DRY, "call g 1 call g 1 call g 1 4", bound=bound, more=more)

    def test_parameters_and_values(self):
        records = "record pt x num y row\nrecord two a pt b pt\n"
        pair = ((1, (2,)), (3, ()))
        self.assert_runs(("back", pair), "give t", (pair,), " t two", kind="two", records=records)
        self.assert_runs(("back", (3, ())), "give t.b", (pair,), " t two", kind="pt", records=records)
        self.assert_runs(("back", (2,)), "give t.a.y", (pair,), " t two", kind="row", records=records)
        self.assert_runs(("back", ((7, (8,)), (3, ()))), "give new two 2 new pt 2 7 make 1 8 t.b", (pair,), " t two",
                         kind="two", records=records)
        self.assert_runs(("back", -5), "give add a sub b c", (1, 2, 8), " a num b num c num")

    def test_set_of_fields(self):
        records = "record pt x num y row\nrecord two a pt b pt\n"
        pair = ((1, (2,)), (3, ()))
        for body, told in [
            ("set t.a.x 9", ((9, (2,)), (3, ()))), ("set t.b.y make 1 9", ((1, (2,)), (3, (9,)))),
            ("set t.a t.b", ((3, ()), (3, ()))), ("set t new two 2 t.b t.a", ((3, ()), (1, (2,)))),
            ("put t.a.y 0 9", ((1, (9,)), (3, ()))), ("let u t\nset u.a.x 9\nset t.b.x u.a.x", ((1, (2,)), (9, ()))),
            ("let u t.a\nset u.x 9", pair), ("let u t\nset t.a.x 9\nset t u", pair),
            ("set t.a t.b\nset t.a.x 8", ((8, ()), (3, ()))), ("set t.b t.a\nput t.b.y 0 7", ((1, (2,)), (1, (7,)))),
        ]:
            self.assert_runs(("back", told), body + "\ngive t", (pair,), " t two", kind="two", records=records)
        self.assertEqual(pair, ((1, (2,)), (3, ())))

    def test_a_callee_has_values_of_its_own(self):
        records = "record pt x num y row\n"
        more = "\nfunction g num p pt\nset p.x 9\nput p.y 0 9\ngive p.x\nend"
        self.assert_runs(("back", (1, (2,))), "let k call g 1 p\ngive p", ((1, (2,)),), " p pt", bound=1, kind="pt", more=more,
                         records=records)
        self.assert_runs(("back", 1), "set a call h 1 a\ngive a", (0,), " a num", bound=1,
                         more="\nfunction h num b num\nlet a 5\nset b 1\ngive b\nend")

    def test_put(self):
        self.assert_runs(("back", (1, 9)), "put r 1 9\ngive r", ((1, 2),), " r row", kind="row")
        for place in (-1, 2, 32767):
            self.assert_runs(fault("range"), f"put r {place} 9\ngive r", ((1, 2),), " r row", kind="row")
        self.assert_runs(fault("nought"), "put r div 1 0 at r 5\ngive r", ((1, 2),), " r row", kind="row")
        self.assert_runs(fault("range"), "put r 5 at r 5\ngive r", ((1, 2),), " r row", kind="row")
        self.assert_runs(fault("nought"), "put r 5 div 1 0\ngive r", ((1, 2),), " r row", kind="row")
        self.assert_runs(("back", (2, 2)), "put r 0 at r 1\ngive r", ((1, 2),), " r row", kind="row")

    def test_if(self):
        body = "if a\nset b 1\nelse\nset b 2\nend\ngive b"
        for a, b in [(1, 1), (-1, 1), (0, 2), (-32768, 1)]:
            self.assert_runs(("back", b), body, (a, 0), " a num b num")
        self.assert_runs(("back", 7), "if a\ngive 1\nend\ngive 7", (0,), " a num")
        self.assert_runs(("back", 1), "if a\ngive 1\nelse\ngive 2\nend", (3,), " a num")
        self.assert_runs(fault("nought"), "if div a 0\ngive 1\nend\ngive 7", (0,), " a num")

    def test_while(self):
        body = "while less a 5\nset a add a 1\nset b add b a\nend\ngive b"
        for bound in range(8):
            self.assert_runs(("back", 15) if bound >= 5 else DRY, body, (0, 0), " a num b num", bound=bound)
        self.assert_runs(("back", 0), body, (5, 0), " a num b num")
        self.assert_runs(DRY, "while 1\nset a 1\nend\ngive a", (0,), " a num", bound=10 ** 5)
        self.assert_runs(("back", 9), "while 1\ngive 9\nend\ngive 8", bound=1)
        self.assert_runs(DRY, "while 1\ngive 9\nend\ngive 8", bound=0)
        self.assert_runs(("back", 8), "while 0\ngive 9\nend\ngive 8", bound=0)
        self.assert_runs(fault("nought"), "while div 1 a\nset a 0\nend\ngive 8", (1,), " a num", bound=1)
        self.assert_runs(DRY, "while 1\nset a div 1 0\nend\ngive 8", (1,), " a num", bound=0)
        self.assert_runs(fault("nought"), "while 1\nset a div 1 0\nend\ngive 8", (1,), " a num", bound=1)

    def test_while_with_a_let_and_an_inner_while(self):
        body = """while a
let k 3
while k
set k sub k 1
set b add b 1
end
set a sub a 1
end
give b"""
        for bound in range(18):
            self.assert_runs(("back", 12) if bound >= 16 else DRY, body, (4, 0), " a num b num", bound=bound)

    def test_a_while_whose_test_calls(self):
        more = "\nfunction g num a num\ngive less a 3\nend"
        body = "while call g 1 a\nset a add a 1\nend\ngive a"
        for bound in range(9):
            self.assert_runs(("back", 3) if bound >= 7 else DRY, body, (0,), " a num", bound=bound, more=more)

    def test_beginning_at_a_later_function(self):
        tree = right("function f num\ngive 1\nend\nfunction g num a num\ngive add a call f 0\nend")
        self.assertEqual(run_source(tree, "g", (4,), 1), ("back", 5))
        self.assertEqual(run_source(tree, "f", (), 0), ("back", 1))

    def test_deep_calls(self):
        tree = right("function f num a num\nif same a 0\ngive 0\nend\ngive add 1 call f 1 sub a 1\nend")
        self.assertEqual(run_source(tree, "f", (30000,), 30000), ("back", 30000))
        self.assertEqual(run_source(tree, "f", (30000,), 29999), DRY)
        self.assertEqual(run_source(tree, "f", (30000,), 10 ** 6), ("back", 30000))

    def test_a_million_calls_within_one_another(self):
        tree = right("""function f num a num b num
if same a 1000
if same b 999
give 7
end
set b add b 1
set a 0
end
give call f 2 add a 1 b
end""")
        self.assertEqual(run_source(tree, "f", (0, 0), 10 ** 6), ("back", 7))
        self.assertEqual(run_source(tree, "f", (0, 0), 10 ** 6 - 1), DRY)

    def test_a_million_rounds(self):
        tree = right("function f num a num\nwhile 1\nset a 1\nend\ngive a\nend")
        self.assertEqual(run_source(tree, "f", (0,), 10 ** 6), DRY)

    def test_told_things_are_tuples_and_numbers(self):
        tree = right("record p x num y row\nfunction f p a p\nset a.x less 1 2\nput a.y 0 not 0\ngive a\nend")
        outcome = run_source(tree, "f", ((5, (6, 7)),), 0)
        self.assertEqual(outcome, ("back", (1, (1, 7))))
        self.assertIs(type(outcome), tuple)
        self.assertIs(type(outcome[1]), tuple)
        self.assertIs(type(outcome[1][0]), int)
        self.assertIs(type(outcome[1][1][0]), int)


class SecondRunnerTest(unittest.TestCase):
    def test_sources_by_chance(self):
        seen = set()
        for seed in range(250):
            maker = Maker(seed)
            text = maker.source()
            tree = right(text)
            self.assertEqual(shown(tree), text)
            for name in maker.functions:
                for bound in (0, 1, 2, 5, 30):
                    values = maker.values(name)
                    outcome = run_source(tree, name, values, bound)
                    self.assertEqual(outcome, second_run(tree, name, values, bound), (text, name, values, bound))
                    seen.add(outcome[:2] if outcome[0] == "fault" else outcome[0])
        self.assertEqual(seen, {"back", "dry", fault("nought"), fault("range"), fault("long")})


if __name__ == "__main__":
    unittest.main()
