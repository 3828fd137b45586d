"""Points 11 and 12: kinds."""

import copy
import unittest

from samepaper.errors import NoKind, NoText, SameError
from samepaper.kinds import kind_of_expr, kinded, parts_of
from samepaper.reading import read

HEAD = """record pt x num y num
record seg lo pt hi pt
record mix k num v row
"""

# What each body below may name: g and rows, pts take and tell kinds of all sorts.
TAIL = """
function g num a num b row
give a
end
function h row
give make 0
end
function mk pt a num
give new pt 2 a a
end"""


def within(body, head="function f num a num r row p pt s seg"):
    """A whole text around a body's lines."""
    return f"{HEAD}{head}\n{body}\nend{TAIL}"


def marked(text):
    """A text without its one mark @, and the line and word that it marks."""
    for line, row in enumerate(text.split("\n")):
        for number, word in enumerate(row.split(" ")):
            if word.startswith("@"):
                return text.replace("@", "", 1), line, number
    raise AssertionError("no mark")


class RightTest(unittest.TestCase):
    def assert_right(self, text):
        self.assertIs(kinded(read(text)), True)

    def test_names_alike_across(self):
        self.assert_right("""record a a num b num
record b a a b row
function a b b b a a
let c new b 2 a b.b
give c
end
function b num a num b a
set b.a call b 2 b.b b
give a
end""")

    def test_records_within_records(self):
        self.assert_right("""record a x num
record b y a z a
record c w b
record d v c u b
function f a p d
set p.v.w p.u
give p.u.z
end""")

    def test_calls_of_later_ones_and_themselves(self):
        self.assert_right("""function f num a num
give call g 1 call f 1 a
end
function g num a num
give add call h 0 call f 1 a
end
function h num
give call h 0
end""")

    def test_each_statement(self):
        for body in [
            "give a", "let b r\nlet c b\ngive at c 0", "let q s\nset q.lo.x 1\ngive q.lo.x", "set s.lo p\ngive 0",
            "set p s.hi\ngive p.y", "put r a a\ngive size r", "let m new mix 2 1 r\nput m.v 0 1\ngive m.k",
            "while a\nlet b 1\nset a b\nend\ngive a", "if a\ngive 1\nelse\ngive 2\nend",
            "if a\nlet b 1\nif b\nset a b\nlet c b\nset b c\nend\nend\ngive a",
            "if a\nlet b 1\nelse\nlet c 2\nend\ngive a",
            "if a\nif a\ngive 1\nelse\ngive 2\nend\nelse\nwhile a\ngive 1\nend\ngive 3\nend",
            "let b call h 0\nlet c call mk 1 a\ngive add size b c.x",
            "give and a or a not a", "give size put many a a 1 1", "give pick a add a 1 mul a sub a 1",
            "give at make 2 a a rest a div 1 a", "give less a same a 1",
        ]:
            self.assert_right(within(body))

    def test_each_kind_given(self):
        for kind, e in [("num", "1"), ("row", "r"), ("pt", "p"), ("seg", "s"), ("pt", "s.lo"), ("num", "s.lo.x"),
                        ("pt", "call mk 1 1"), ("seg", "new seg 2 p p"), ("row", "call h 0"), ("mix", "new mix 2 1 r")]:
            self.assert_right(within(f"give {e}", f"function f {kind} a num r row p pt s seg"))

    def test_four_parts(self):
        last = "\nfunction f num\ngive 1\nend"
        self.assert_right("record a x num y num z num w row" + last)
        self.assert_right("record a x num y num\nrecord b p a q a" + last)
        self.assert_right("record a x num y num z num\nrecord b p num q a" + last)


class RefusedTest(unittest.TestCase):
    def assert_refused(self, text):
        text, line, word = marked(text)
        tree = read(text)
        kept = copy.deepcopy(tree)
        with self.assertRaises(NoKind) as caught:
            kinded(tree)
        self.assertEqual((caught.exception.line, caught.exception.word), (line, word), text)
        self.assertEqual(tree, kept)

    def assert_body_refused(self, *bodies):
        for body in bodies:
            self.assert_refused(within(body) if "@end" not in body else within(body).replace("@end\nend", "@end", 1))

    def test_how_a_refusal_is_taken(self):
        tree = read("function f num\ngive a\nend")
        for base in (SameError, ValueError, NoKind):
            with self.assertRaises(base):
                kinded(tree)
        try:
            kinded(tree)
        except NoText:
            self.fail("taken by another class")
        except NoKind:
            pass
        self.assertIs(kinded(read("function f num\ngive 1\nend")), True)

    def test_records(self):
        last = "\nfunction f num\ngive 1\nend"
        for records in [
            "record a x num\nrecord @a y num",
            "record a x num\nrecord b x num\nrecord c x num\nrecord @b y num",
            "record a x num @x num",
            "record a x num y num @x row",
            "record a x @a",
            "record a x @b\nrecord b y num",
            "record a x @zz",
            "record a x num y @zz z zz",
            "record a x num y num z num w @f",
            "record a x num y num\nrecord b p a q a r @num",
            "record a x num y num\nrecord b p a q num r @a",
            "record a x num y num\nrecord b p row q a r @a s num",
            "record a x num y num z num w num\nrecord b p a q @row",
            "record a x num y num\nrecord b p a q a\nrecord c u num v @b",
            "record a x num @x zz",
            "record a x num\nrecord @a y zz",
            "record a x num y num z num\nrecord b p a @p a",
        ]:
            self.assert_refused(records + last)

    def test_functions(self):
        one = "function f num a num\ngive a\nend\n"
        for text in [
            one + "function @f num\ngive 1\nend",
            one + "function g @zz\ngive 1\nend",
            one + "function g num a @zz\ngive 1\nend",
            one + "function g num a num b @zz\ngive 1\nend",
            one + "function g num a num b row c num d @zz\ngive 1\nend",
            one + "function g num a num @a num\ngive 1\nend",
            one + "function g num a num b num c num @b row\ngive 1\nend",
            one + "function @f zz a zz a zz\ngive 1\nend",
            one + "function g @zz a zz a zz\ngive 1\nend",
            one + "function g num a @zz a zz\ngive 1\nend",
            one + "function g num a num @a zz\ngive 1\nend",
            one + "function g num a @f\ngive 1\nend",
        ]:
            self.assert_refused(text)

    def test_heads_ahead_of_all_else(self):
        for text in [
            "function f num\nlet b 1\ngive zz\nend\nfunction @f num\ngive 1\nend",
            "function f num\ngive zz\nend\nfunction g num\nif 1\nlet a 1\nelse\nlet b 1\nend\nend\nfunction h @zz\ngive 1\nend",
            "function f num\nwhile 1\ngive zz\nend\nend\nfunction g num a num @a num\ngive 1\nend",
            "record a x @b\nfunction f zz\ngive zz\nend",
            "record a x num\nfunction f @zz\ngive zz\nend\nfunction f num\ngive 1\nend",
        ]:
            self.assert_refused(text)

    def test_lets(self):
        self.assert_body_refused(
            "let @a 1\ngive a", "let @s 1\ngive a", "let b 1\nlet @b 2\ngive a",
            "if a\nlet b 1\nelse\nlet @b 1\nend\ngive a", "while a\nlet b 1\nend\nlet @b 1\ngive a",
            "let b 1\nif a\nlet @b 1\nend\ngive a", "if a\nlet b 1\nend\nif a\nlet @b r\nend\ngive a",
            "let b @b\ngive a", "let @a zz\ngive a", "let b add 1 @b\ngive a",
        )

    def test_paths(self):
        self.assert_body_refused(
            "give @zz", "give @zz.x", "give @a.x", "give @r.x", "give @p.z", "give @p.x.x", "give @s.x", "give @s.lo.z",
            "give @f", "give @pt", "give @pt.x", "set @zz 1\ngive a", "set @a.x 1\ngive a", "set @p.z 1\ngive a",
            "set @s.lo.k 1\ngive a", "put @zz 1 1\ngive a", "put @a 1 1\ngive a", "put @p 1 1\ngive a",
            "put @p.x 1 1\ngive a", "put @s.lo.x 1 1\ngive a", "put @r.x 1 1\ngive a",
            "set @zz yy\ngive a", "put @a yy zz\ngive a", "set a add 1 @zz\ngive a", "give add add 1 2 add a @zz",
        )

    def test_scopes(self):
        self.assert_body_refused(
            "if a\nlet b 1\nend\ngive @b", "if a\nlet b 1\nelse\nset @b 1\nend\ngive a", "while a\nlet b 1\nend\nset @b 2\ngive b",
            "set @b 1\nlet b 1\ngive b", "while @b\nlet b 1\nend\ngive a", "if a\nif a\nlet b 1\nend\nset a @b\nend\ngive a",
            "while a\nset a @b\nlet b 1\nend\ngive a",
        )

    def test_names_behind_call_and_new(self):
        self.assert_body_refused(
            "give call @zz 0", "give call @pt 2 1 1", "give call @a 0", "let b new @zz 0\ngive a", "let b new @f 0\ngive a",
            "give add 1 call @zz 1 1", "let b call @zz 3 zz zz zz\ngive a", "set p new @a 2 1 1\ngive a",
        )

    def test_kinds_of_statements(self):
        self.assert_body_refused(
            "give @r", "give @p", "give @make 0", "give @new pt 2 1 1", "give @call h 0", "give @call mk 1 1", "give @s.lo",
            "give @many 1 1", "give @put r 1 1",
            "set a @r\ngive a", "set r @a\ngive a", "set r @1\ngive a", "set r @add 1 1\ngive a", "set p @s\ngive a",
            "set p @a\ngive a", "set p.x @p\ngive a", "set p.x @r\ngive a", "set s.lo @s\ngive a", "set s.lo.x @p\ngive a",
            "set s @p\ngive a", "set r @not 1\ngive a", "set r @and 1 1\ngive a", "set p @new seg 2 p p\ngive a",
            "set p @new mix 2 1 r\ngive a", "set a @new pt 2 1 1\ngive a",
            "put r @r 1\ngive a", "put r 1 @r\ngive a", "put r add 1 1 @p\ngive a", "put r call g 2 1 r @r\ngive a",
            "put r @make 2 1 1 1\ngive a", "put r @r zz\ngive a",
            "if @r\ngive a\nelse\ngive a\nend", "if @p\ngive a\nelse\ngive a\nend", "while @r\nset a 1\nend\ngive a",
            "while @make 0\nset a 1\nend\ngive a",
        )

    def test_kinds_within_expressions(self):
        two = ["add", "sub", "mul", "div", "rest", "less", "same", "and", "or"]
        self.assert_body_refused(*[f"give {op} @r 1" for op in two], *[f"give {op} 1 @r" for op in two])
        self.assert_body_refused(*[f"give {op} @p r" for op in two])
        self.assert_body_refused(
            "give not @r", "give not @p", "give pick @r 1 1", "give pick 1 @r 1", "give pick 1 1 @r", "give at @1 1",
            "give at r @r", "give at @p 1", "give size @1", "give size @p", "give size put @1 1 1", "give size put r @r 1",
            "give size put r 1 @r", "give size many @r 1", "give size many 1 @r", "give size make 2 1 @r",
            "give size make 3 @p 1 r", "give call g 2 @r r", "give call g 2 1 @1", "give call g 2 1 @p",
            "let b new pt 2 @r 1\ngive a", "let b new pt 2 1 @p\ngive a", "let b new seg 2 p @s\ngive a",
            "let b new mix 2 1 @1\ngive a", "let b add @r 1\ngive a", "let b make 3 1 add 1 1 @r\ngive a",
            "give add size make 2 1 1 @r", "give at call h 0 @r", "give add call g 2 1 r @r",
        )

    def test_many(self):
        self.assert_body_refused(
            "give call g @0", "give call g @1 1", "give call g @3 1 r 1", "give size call h @1 1",
            "let b new pt @0\ngive a", "let b new pt @1 1\ngive a", "let b new pt @3 1 1 1\ngive a",
            "give add 1 call g @1 1", "set p call mk @2 1 1\ngive a",
        )

    def test_the_first_of_two(self):
        self.assert_body_refused(
            "give call @zz 1 zz", "give add 1 @call h 1 1", "give @call h 1 zz", "give @call mk 3 zz r r",
            "give call g @1 r", "give call g @3 zz r r", "give call g 2 @r zz", "give call g 2 @zz 1", "give @make 1 zz",
            "give call g 2 call g @1 zz r", "give call g 2 call @zz 1 zz zz", "let b new pt 2 @r zz\ngive a",
            "give add call g @1 1 r", "give add at r @r r", "set a @r\ngive zz", "set a @zz\nset a r\ngive a",
            "if @r\ngive zz\nelse\ngive zz\nend", "if a\ngive @zz\nelse\ngive zz\nend", "let b @zz\nlet b 1\ngive a",
            "give call g 2 add 1 @r 1", "let b new seg 2 @new mix 2 1 1 zz\ngive a",
        )

    def test_behind_an_end(self):
        self.assert_body_refused(
            "give 1\n@give 2", "give 1\n@let a zz", "give 1\n@if zz\ngive zz\nend", "give 1\n@while 1\ngive 1\nend",
            "if 1\ngive 1\nelse\ngive 2\nend\n@give 3", "if 1\ngive 1\n@set a 1\nend\ngive 3",
            "if 1\nset a 1\nelse\ngive 1\n@set a 1\nend\ngive 3", "while 1\ngive 1\n@set a 1\nend\ngive 3",
            "if 1\nif 2\ngive 1\nelse\ngive 2\nend\nelse\ngive 2\nend\n@put zz 1 1",
            "if 1\nif 2\ngive 1\nelse\ngive 2\nend\n@give 3\nelse\ngive 2\nend",
        )

    def test_bodies_that_are_not_ended(self):
        self.assert_body_refused(
            "let b 1\n@end", "while 1\ngive 1\nend\n@end", "if 1\ngive 1\nend\n@end",
            "if 1\ngive 1\nelse\nset a 1\nend\n@end", "if 1\nset a 1\nelse\ngive 1\nend\n@end",
            "if 1\nif 2\ngive 1\nend\nelse\ngive 1\nend\n@end", "if 1\nwhile 2\ngive 1\nend\nelse\ngive 1\nend\n@end",
        )

    def test_ends_in_order(self):
        self.assert_refused("function f num\nlet a 1\n@end\nfunction g num\ngive zz\nend")
        self.assert_refused("function f num\nset @zz 1\nend\nfunction g num\ngive zz\nend")
        self.assert_refused("function f num\ngive 1\nend\nfunction g num\nif 1\ngive 1\nelse\nlet a 1\nend\n@end")
        self.assert_refused("function f num\ngive 1\nend\nfunction g num\nif 1\ngive 1\nelse\nlet a 1\nend\nset @b 1\nend")


class KindsTest(unittest.TestCase):
    def setUp(self):
        self.tree = read(within("give a"))

    def test_kind_of_expr(self):
        known = {"a": "num", "r": "row", "p": "pt", "s": "seg", "m": "mix"}
        kept = dict(known)
        of_a, of_r = ("of", ("a",)), ("of", ("r",))
        for e, kind in [
            (0, "num"), (-5, "num"), (of_a, "num"), (of_r, "row"), (("of", ("p",)), "pt"), (("of", ("p", "x")), "num"),
            (("of", ("s",)), "seg"), (("of", ("s", "hi")), "pt"), (("of", ("s", "hi", "y")), "num"),
            (("of", ("m", "v")), "row"), (("call", "g", of_a, of_r), "num"), (("call", "h"), "row"), (("call", "mk", 1), "pt"),
            (("new", "pt", 1, 2), "pt"), (("new", "mix", 1, of_r), "mix"), (("and", 1, 2), "num"), (("or", 1, 2), "num"),
            (("not", 1), "num"), (("pick", 1, 2, 3), "num"), (("at", of_r, 1), "num"), (("size", of_r), "num"),
            (("put", of_r, 1, 2), "row"), (("many", 1, 2), "row"), (("make",), "row"), (("make", 1, 2), "row"),
        ]:
            self.assertEqual(kind_of_expr(self.tree, known, e), kind, e)
        for op in ("add", "sub", "mul", "div", "rest", "less", "same"):
            self.assertEqual(kind_of_expr(self.tree, known, (op, 1, of_a)), "num")
        self.assertEqual(known, kept)

    def test_parts_of(self):
        tree = read("""record a x num y row
record b p row
record c u a v b w num
record d s c
function f num
give 1
end""")
        for kind, parts in [("num", "n"), ("row", "r"), ("a", "nr"), ("b", "r"), ("c", "nrrn"), ("d", "nrrn")]:
            self.assertEqual(parts_of(tree, kind), parts)


if __name__ == "__main__":
    unittest.main()
