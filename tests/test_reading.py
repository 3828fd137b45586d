"""Points 8 to 10: texts read into trees, and trees shown as texts."""

import unittest

from samepaper.errors import NoCode, NoKind, NoMiddle, NoPaper, NoText, SameError
from samepaper.reading import read
from samepaper.showing import shown, shown_expr

FULL = """record pt x num y num
record box lo pt hi pt
function main num a num b row c box
let t add a 1
set c.lo.x mul t -3
put b 0 at b 1
if and t not a
while less t 10
set t add t call step 2 t a
end
else
if or t a
give 0
end
end
let q make 3 t a size b
let p new pt 2 t t
set c.hi p
give pick not t call last 0 at put q 0 t 2
end
function step num x num y num
give sub x y
end
function last num
give 5
end"""

FULL_TREE = (
    (
        ("pt", (("x", "num"), ("y", "num"))),
        ("box", (("lo", "pt"), ("hi", "pt"))),
    ),
    (
        ("main", "num", (("a", "num"), ("b", "row"), ("c", "box")), (
            ("let", "t", ("add", ("of", ("a",)), 1)),
            ("set", ("c", "lo", "x"), ("mul", ("of", ("t",)), -3)),
            ("put", ("b",), 0, ("at", ("of", ("b",)), 1)),
            ("if", ("and", ("of", ("t",)), ("not", ("of", ("a",)))), (
                ("while", ("less", ("of", ("t",)), 10), (
                    ("set", ("t",), ("add", ("of", ("t",)), ("call", "step", ("of", ("t",)), ("of", ("a",))))),
                )),
            ), (
                ("if", ("or", ("of", ("t",)), ("of", ("a",))), (("give", 0),), ()),
            )),
            ("let", "q", ("make", ("of", ("t",)), ("of", ("a",)), ("size", ("of", ("b",))))),
            ("let", "p", ("new", "pt", ("of", ("t",)), ("of", ("t",)))),
            ("set", ("c", "hi"), ("of", ("p",))),
            ("give", ("pick", ("not", ("of", ("t",))), ("call", "last"),
                      ("at", ("put", ("of", ("q",)), 0, ("of", ("t",))), 2))),
        )),
        ("step", "num", (("x", "num"), ("y", "num")), (("give", ("sub", ("of", ("x",)), ("of", ("y",)))),)),
        ("last", "num", (), (("give", 5),)),
    ),
)


def all_tuples(thing):
    if isinstance(thing, (int, str)):
        return type(thing) in (int, str)
    return type(thing) is tuple and all(all_tuples(part) for part in thing)


def body(*lines):
    """A function around these lines."""
    return "\n".join(["function f num a num", *lines, "end"])


class TreesTest(unittest.TestCase):
    def test_the_whole_tree(self):
        tree = read(FULL)
        self.assertEqual(tree, FULL_TREE)
        self.assertTrue(all_tuples(tree))
        self.assertEqual(shown(tree), FULL)
        self.assertEqual(read(FULL), tree)

    def test_the_least_text(self):
        self.assertEqual(read("function f num\ngive 0\nend"), ((), (("f", "num", (), (("give", 0),)),)))

    def test_each_statement(self):
        of_a = ("of", ("a",))
        for lines, statement in [
            (["let b a"], ("let", "b", of_a)),
            (["let abcdefgh a"], ("let", "abcdefgh", of_a)),
            (["set a.b.c 1"], ("set", ("a", "b", "c"), 1)),
            (["set a -32768"], ("set", ("a",), -32768)),
            (["put a.b 1 a"], ("put", ("a", "b"), 1, of_a)),
            (["give a"], ("give", of_a)),
            (["if a", "give 1", "end"], ("if", of_a, (("give", 1),), ())),
            (["if a", "give 1", "else", "give 2", "end"], ("if", of_a, (("give", 1),), (("give", 2),))),
            (["while a", "give 1", "give 2", "end"], ("while", of_a, (("give", 1), ("give", 2)))),
            (["if a", "if 1", "give 1", "end", "else", "while 2", "give 2", "end", "end"],
             ("if", of_a, (("if", 1, (("give", 1),), ()),), (("while", 2, (("give", 2),)),))),
        ]:
            text = body(*lines)
            tree = read(text)
            self.assertEqual(tree[1][0][3], (statement,))
            self.assertEqual(shown(tree), text)

    def test_each_expression(self):
        of_a = ("of", ("a",))
        for words, e in [
            ("0", 0), ("-1", -1), ("32767", 32767), ("a", of_a), ("of", ("of", ("of",))), ("a.b.c", ("of", ("a", "b", "c"))),
            ("add a 1", ("add", of_a, 1)), ("sub a 1", ("sub", of_a, 1)), ("mul a 1", ("mul", of_a, 1)),
            ("div a 1", ("div", of_a, 1)), ("rest a 1", ("rest", of_a, 1)), ("less a 1", ("less", of_a, 1)),
            ("same a 1", ("same", of_a, 1)), ("pick a 1 2", ("pick", of_a, 1, 2)), ("at a 1", ("at", of_a, 1)),
            ("size a", ("size", of_a)), ("put a 1 2", ("put", of_a, 1, 2)), ("many a 1", ("many", of_a, 1)),
            ("make 0", ("make",)), ("make 1 a", ("make", of_a)),
            ("make 8 1 2 3 4 5 6 7 8", ("make", 1, 2, 3, 4, 5, 6, 7, 8)),
            ("and a 1", ("and", of_a, 1)), ("or a 1", ("or", of_a, 1)), ("not a", ("not", of_a)),
            ("call g 0", ("call", "g")), ("call g 2 1 a", ("call", "g", 1, of_a)),
            ("call g 8 1 2 3 4 5 6 7 8", ("call", "g", 1, 2, 3, 4, 5, 6, 7, 8)),
            ("new g 0", ("new", "g")), ("new of 1 a", ("new", "of", of_a)),
            ("add sub 1 2 make 1 3", ("add", ("sub", 1, 2), ("make", 3))),
            ("not not not not not not not not not not not 1", None),
        ]:
            text = body("give " + words)
            told = read(text)[1][0][3][0][1]
            if e is not None:
                self.assertEqual(told, e)
            self.assertEqual(shown_expr(told), words)
            self.assertEqual(shown(read(text)), text)


class RefusalsTest(unittest.TestCase):
    def assert_refused(self, text, line):
        with self.assertRaises(NoText) as caught:
            read(text)
        self.assertEqual(caught.exception.line, line, text)
        self.assertIs(type(caught.exception.line), int)

    def test_how_a_refusal_is_taken(self):
        for base in (SameError, ValueError):
            with self.assertRaises(base):
                read("")
        try:
            read("")
        except (NoKind, NoMiddle, NoPaper, NoCode):
            self.fail("taken by another class")
        except NoText as refusal:
            self.assertEqual(refusal.line, 0)
        self.assertEqual(read(FULL), FULL_TREE)

    def test_first_words(self):
        for text, line in [
            ("", 0), ("x", 0), ("give 1", 0), ("end", 0), ("Function f num\ngive 1\nend", 0),
            ("functions f num\ngive 1\nend", 0), ("record a b num\nx", 1), ("record a b num\nlet a 1", 1),
            (body("leet b 1"), 1), (body("b 1"), 1), (body("function g num"), 1), (body("record a b num"), 1),
            (body("add 1 2"), 1), (body("call g 0"), 1), (body("copy a"), 1),
            (body("give 1") + "\ngive 1", 3), (body("give 1") + "\nend", 3), (body("give 1") + "\nelse", 3),
        ]:
            self.assert_refused(text, line)

    def test_words_too_many_and_too_few(self):
        for line in ["let b", "let b 1 2", "let", "let b add 1", "set", "set a", "set a 1 1", "put a 1", "put a", "put",
                     "put a 1 2 3", "give", "give 1 2", "give add 1", "give add 1 2 3", "give not", "give not 1 2",
                     "give pick 1 2", "give size", "give make", "give make 2 1", "give make 0 1", "give call", "give call g",
                     "give call g 1", "give call g 1 1 1", "give new g", "give new g 2 1", "if", "if 1 2", "while",
                     "while 1 2", "give and 1", "give or 1"]:
            self.assert_refused(body(line, "give 1"), 1)
        for head in ["function", "function f", "function f num a", "function f num a num b", "record", "record a",
                     "record a b", "record a b num c"]:
            self.assert_refused(head + "\ngive 1\nend", 0)
        self.assert_refused(body("if 1", "give 1", "end 1"), 3)
        self.assert_refused(body("if 1", "give 1", "else 1", "give 2", "end"), 3)
        self.assert_refused(body("while 1", "give 1", "end end"), 3)
        self.assert_refused("function f num\ngive 1\nend end", 2)
        self.assert_refused("function f num\ngive 1\nend 0", 2)

    def test_words_of_other_forms(self):
        for line in ["let num 1", "let a.b 1", "let 1 1", "let Abc 1", "let abcdefghi 1", "let let 1", "set 1 1",
                     "set a.b.c.d 1", "set a. 1", "set num 1", "put 1 1 1", "put a..b 1 1", "give A", "give 01", "give -0",
                     "give +1", "give 32768", "give -32769", "give a.b.c.d", "give .a", "give num", "give row", "give copy a",
                     "give keep a", "give let", "give if", "give give 1", "give end", "give make 9 1 1 1 1 1 1 1 1 1",
                     "give make a 1", "give make -1", "give make 00", "give make 01 1", "give call 1 0", "give call num 0",
                     "give call a.b 0", "give call g 9 1 1 1 1 1 1 1 1 1", "give call g a", "give new g x", "give new row 0",
                     "give new g -0", "give call g +1 1"]:
            self.assert_refused(body(line, "give 1"), 1)
        for head in ["function 1 num", "function f 1", "function num num", "function f if", "function f num a.b num",
                     "function f num num a", "function f num a 5", "function f num a make", "record if a num",
                     "record a num num", "record a b 1", "record a b c.d", "record a.b c num", "record a b add"]:
            self.assert_refused(head + "\ngive 1\nend", 0)

    def test_blanks(self):
        for line in ["give  1", " give 1", "give 1 ", "give  add 1 2", "give add  1 2", "give add 1  2", " ", "  "]:
            self.assert_refused(body(line), 1)
        for text, line in [
            ("function  f num\ngive 1\nend", 0), (" function f num\ngive 1\nend", 0), ("function f num \ngive 1\nend", 0),
            ("record a b num \nfunction f num\ngive 1\nend", 0), ("record a  b num\nfunction f num\ngive 1\nend", 0),
            ("function f num\ngive 1\nend ", 2), ("function f num\ngive 1\n end", 2),
            (body("if 1", "give 1", "else ", "give 2", "end"), 3), (body("if 1", "give 1", " else", "give 2", "end"), 3),
            (body("if 1", "give 1", "end ", "give 2"), 3),
        ]:
            self.assert_refused(text, line)

    def test_an_empty_line_anywhere(self):
        lines = FULL.split("\n")
        for at in range(len(lines) + 1):
            self.assert_refused("\n".join(lines[:at] + [""] + lines[at:]), at)

    def test_a_line_behind_the_last_one(self):
        many = len(FULL.split("\n"))
        for line in ["", "end", "x", "give 1", "record a b num", "else", " "]:
            self.assert_refused(FULL + "\n" + line, many)
        self.assert_refused(FULL + "\nfunction g num", many + 1)

    def test_a_line_that_lacks(self):
        lines = FULL.split("\n")
        whole = {len(lines), lines.index("function step num x num y num"), lines.index("function last num")}
        for at in range(1, len(lines)):
            text = "\n".join(lines[:at])
            if at in whole:
                self.assertEqual(shown(read(text)), text)
            else:
                self.assert_refused(text, at)

    def test_no_function(self):
        self.assert_refused("record a b num", 1)
        self.assert_refused("record a b num\nrecord c b num", 2)
        self.assert_refused("record a b num\n", 1)

    def test_a_record_behind_a_function(self):
        self.assert_refused("function f num\ngive 1\nend\nrecord a b num", 3)
        self.assert_refused("function f num\ngive 1\nend\nrecord a b num\nfunction g num\ngive 1\nend", 3)

    def test_empty_bodies(self):
        self.assert_refused("function f num\nend", 1)
        self.assert_refused(body("if 1", "end"), 2)
        self.assert_refused(body("if 1", "else", "give 1", "end"), 2)
        self.assert_refused(body("if 1", "give 1", "else", "end"), 4)
        self.assert_refused(body("while 1", "end"), 2)

    def test_else_where_there_is_none(self):
        self.assert_refused("function f num\ngive 1\nelse\ngive 2\nend", 2)
        self.assert_refused(body("while 1", "give 1", "else", "give 2", "end"), 3)
        self.assert_refused(body("if 1", "give 1", "else", "give 2", "else", "give 3", "end"), 5)


class CountsTest(unittest.TestCase):
    def assert_kept(self, text):
        self.assertEqual(shown(read(text)), text)

    def assert_beyond(self, text, line):
        with self.assertRaises(NoText) as caught:
            read(text)
        self.assertEqual(caught.exception.line, line)

    def test_records(self):
        last = "\nfunction f num\ngive 1\nend"
        self.assert_kept("\n".join(["record a b num"] * 4) + last)
        self.assert_beyond("\n".join(["record a b num"] * 5) + last, 4)

    def test_fields(self):
        last = "\nfunction f num\ngive 1\nend"
        self.assert_kept("record a" + " b num" * 4 + last)
        self.assert_beyond("record a" + " b num" * 5 + last, 0)
        self.assert_beyond("record a" + last, 0)

    def test_functions(self):
        one = "function f num\ngive 1\nend"
        self.assert_kept("\n".join([one] * 6))
        self.assert_beyond("\n".join([one] * 7), 18)

    def test_parameters(self):
        self.assert_kept("function f num" + " a num" * 4 + "\ngive 1\nend")
        self.assert_beyond("function f num" + " a num" * 5 + "\ngive 1\nend", 0)

    def test_statements(self):
        self.assert_kept(body(*["give 1"] * 16))
        self.assert_beyond(body(*["give 1"] * 17), 17)
        self.assert_kept("\n".join([body(*["give 1"] * 16)] * 2))
        nested = ["if 1", "while 1", "give 1", "end", "give 1", "else", "give 1", "end"]
        self.assert_kept(body(*nested, *["give 1"] * 11))
        self.assert_beyond(body(*nested, *["give 1"] * 12), 20)
        self.assert_beyond(body(*["give 1"] * 14, "if 1", "while 1", "give 1", "end", "end"), 17)

    def test_lets(self):
        self.assert_kept(body(*["let b 1"] * 5, "give 1"))
        self.assert_beyond(body(*["let b 1"] * 6, "give 1"), 6)
        self.assert_kept(body("while 1", *["let b 1"] * 2, "end", *["let b 1"] * 3))
        self.assert_beyond(body("while 1", *["let b 1"] * 2, "end", *["let b 1"] * 4), 8)
        self.assert_kept("\n".join([body(*["let b 1"] * 5)] * 2))

    def test_the_eight(self):
        for words in ["give and 1 or 1 call g 0", "give call g 1 call g 1 call g 0", "give or or or 1 1 1 1",
                      "give and and and 1 1 1 1"]:
            self.assert_kept(body(words, words, "if 1", "while 1", "give 1", "end", "end"))
            self.assert_beyond(body(words, words, words), 3)
            self.assert_beyond(body(words, words, "if 1", "while 1", "give and 1 1", "end", "end"), 5)
        self.assert_kept(body(*["if 1"] * 8, "give 1", *["end"] * 8))
        self.assert_beyond(body(*["if 1"] * 9, "give 1", *["end"] * 9), 9)
        self.assert_kept(body(*["while 1"] * 8, "give 1", *["end"] * 8))
        self.assert_beyond(body(*["while 1"] * 9, "give 1", *["end"] * 9), 9)
        self.assert_beyond(body(*["if 1"] * 8, "give call g 0", *["end"] * 8), 9)
        self.assert_kept("\n".join([body(*["if 1"] * 8, "give 1", *["end"] * 8)] * 2))
        self.assert_beyond(body(*["if and 1 1"] * 5, "give 1", *["end"] * 5), 5)
        self.assert_kept(body(*["give not not add 1 2"] * 16))

    def test_many(self):
        for word in ("make", "call g", "new g"):
            for many in range(9):
                self.assert_kept(body(f"give {word} {many}" + " 1" * many))
            self.assert_beyond(body(f"give {word} 9" + " 1" * 9), 1)

    def test_words_of_expressions(self):
        for head, tail in [("let b", 0), ("set a.b.c", 0), ("give", 0), ("put a 1", 1)]:
            self.assert_kept(body(head + " not" * (11 - tail) + " 1"))
            self.assert_beyond(body(head + " not" * (12 - tail) + " 1"), 1)
        for head in ("if", "while"):
            self.assert_kept(body(head + " not" * 11 + " 1", "give 1", "end"))
            self.assert_beyond(body(head + " not" * 12 + " 1", "give 1", "end"), 1)
        self.assert_kept(body("put a make 4 1 2 3 4 make 4 1 2 3 4"))
        self.assert_beyond(body("put a make 4 1 2 3 4 make 5 1 2 3 4 5"), 1)
        self.assert_kept(body("give make 8 1 1 1 1 1 1 1 add 1 1"))
        self.assert_beyond(body("give make 8 1 1 1 1 1 1 1 add 1 not 1"), 1)

    def test_far_beyond(self):
        self.assert_beyond(body("give" + " not" * 100000 + " 1"), 1)
        self.assert_beyond(body(*["if 1"] * 100000, "give 1", *["end"] * 100000), 9)
        self.assert_beyond(body("give " + "1" * 100000), 1)


if __name__ == "__main__":
    unittest.main()
