"""Points 23 and 24: tables of forms."""

import random
import unittest

import second_checker
from middles import KINDS

from samepaper.forms import Forms
from samepaper.numbers import done

OPS = {**{op: kinds for op, (kind, kinds) in KINDS.items()}}
TOLD = {op: kind for op, (kind, kinds) in KINDS.items()}


class RulesTest(unittest.TestCase):
    def setUp(self):
        self.forms = Forms()
        self.x, self.y, self.z = [self.forms.thing("n", (name,)) for name in "xyz"]
        self.r, self.s = [self.forms.thing("r", (name,)) for name in "rs"]

    def of(self, thing):
        """A form of a number, of a name in "xyzrs", or of (op, thing ..)."""
        if isinstance(thing, int):
            return self.forms.plain(thing)
        if isinstance(thing, str):
            return getattr(self, thing)
        return self.forms.made(thing[0], tuple(self.of(inner) for inner in thing[1:]))

    def assert_one(self, *things):
        self.assertEqual(len({self.of(thing) for thing in things}), 1, things)

    def assert_unlike(self, *things):
        self.assertEqual(len({self.of(thing) for thing in things}), len(things), things)

    def test_forms_are_whole_numbers(self):
        told = [self.forms.plain(5), self.x, self.r, self.of(("make",)), self.of(("add", "x", 1))]
        for form in told:
            self.assertIs(type(form), int)
            self.assertGreaterEqual(form, 0)
        self.assertEqual(len(set(told)), 5)

    def test_plain_numbers(self):
        for number in (0, 1, -1, 5, 32767, -32768):
            self.assertEqual(self.forms.whole(self.forms.plain(number)), number)
            self.assertEqual(self.forms.plain(number), self.forms.plain(number))
        self.assert_unlike(0, 1, -1, 32767, -32768)

    def test_things_are_themselves(self):
        self.assertEqual(self.x, self.forms.thing("n", ("x",)))
        self.assertEqual(self.r, self.forms.thing("r", ("r",)))
        labels = [(), ("x",), ("x", 1), (1, "x"), (1,), ("1",), ("x", "x"), (0,), (-1,), ("",), ("add", 1, 2)]
        forms = {self.forms.thing(kind, label) for label in labels for kind in "nr"}
        self.assertEqual(len(forms), 2 * len(labels))
        self.assert_unlike("x", "y", "r", "s", 0)

    def test_whole_and_kind(self):
        self.assertEqual([self.forms.whole(form) for form in (self.x, self.r, self.of(("make",)))], [None] * 3)
        self.assertEqual(self.forms.whole(self.of(("sub", "x", "x"))), 0)
        self.assertEqual(self.forms.whole(self.of(("sub", ("add", "x", 7), "x"))), 7)
        self.assertIsNone(self.forms.whole(self.of(("add", "x", 7))))
        self.assertEqual([self.forms.kind(self.of(t)) for t in (3, "x", ("less", "x", "y"), ("size", "r"))], ["n"] * 4)
        rows = ("r", ("make",), ("make", "x"), ("many", 1, 2), ("put", "r", 0, 0), ("keep", "r"))
        self.assertEqual([self.forms.kind(self.of(t)) for t in rows], ["r"] * 6)

    def test_copy_and_keep(self):
        self.assert_one("x", ("copy", "x"), ("copy", ("copy", "x")))
        self.assert_one("r", ("keep", "r"))
        self.assert_one(5, ("copy", 5))

    def test_sums(self):
        self.assert_one(("add", "x", "y"), ("add", "y", "x"), ("sub", "x", ("sub", 0, "y")))
        self.assert_one(("add", ("add", "x", 1), ("add", "y", 2)), ("add", "y", ("add", 3, "x")))
        self.assert_one("x", ("add", "x", 0), ("sub", ("add", "x", "y"), "y"), ("add", "y", ("sub", "x", "y")))
        self.assert_one(("mul", "x", 2), ("add", "x", "x"), ("mul", 2, "x"), ("sub", ("mul", "x", 3), "x"))
        self.assert_one(("mul", ("add", "x", 3), -2), ("sub", ("mul", -2, "x"), 6))
        self.assert_one(0, ("mul", "x", 0), ("mul", 0, "x"), ("sub", "x", "x"))
        self.assert_one("x", ("mul", "x", 1), ("mul", 1, "x"))
        self.assert_unlike("x", ("add", "x", 1), ("add", "x", "x"), ("sub", 0, "x"), ("sub", "x", "y"), ("sub", "y", "x"))
        self.assert_unlike(("mul", "x", 2), ("mul", "x", 3), ("mul", "y", 2), ("mul", "x", -2))

    def test_sums_are_taken_in(self):
        self.assert_one(-32768, ("add", 32767, 1), ("sub", -32767, 1), ("mul", 16384, 2), ("sub", 0, -32768))
        self.assert_one(("sub", "x", 32768 - 65536), ("add", "x", -32768), ("add", ("add", "x", 32767), 1))
        # 32768 times x, twice, is 65536 times x: none.
        half = ("mul", "x", -32768)
        self.assert_one(half, ("mul", ("mul", "x", 16384), 2), ("sub", 0, half))
        self.assert_one(0, ("add", half, half), ("mul", half, 2))
        self.assert_one("y", ("add", ("add", "y", half), half))
        self.assert_one("x", ("mul", ("mul", "x", 3), -21845), ("mul", ("mul", "x", 5), -13107))

    def test_plain_numbers_alone(self):
        values = (-32768, -7, -1, 0, 1, 2, 7, 32767)
        for op in ("add", "sub", "mul", "div", "rest", "less", "same"):
            for one in values:
                for other in values:
                    self.assert_one((op, one, other), done(op, (one, other)))
        for values in ((0, 4, 5), (1, 4, 5), (-3, 4, 5)):
            self.assert_one(("pick", *values), done("pick", values))

    def test_div_and_rest(self):
        self.assert_one(0, ("div", "x", 0), ("rest", "x", 1), ("div", ("add", "x", "y"), ("sub", "y", "y")))
        self.assert_one("x", ("div", "x", 1), ("rest", "x", 0))
        self.assert_one(("div", "x", 2), ("div", ("add", "x", 0), ("add", 1, 1)))
        self.assert_unlike(("div", "x", 2), ("div", "x", 3), ("div", "x", -1), ("rest", "x", 2), ("rest", "x", -1), "x", 0)
        self.assert_unlike(1, 0, ("div", "x", "x"), ("rest", "x", "x"), ("div", 0, "x"), ("rest", 0, "x"), ("div", 1, "x"))

    def test_less(self):
        self.assert_one(0, ("less", "x", "x"), ("less", ("add", "x", "y"), ("add", "y", "x")))
        self.assert_unlike(0, 1, ("less", "x", ("add", "x", 1)), ("less", "x", "y"), ("less", "y", "x"), ("less", "x", 0))

    def test_same(self):
        self.assert_one(1, ("same", "x", "x"), ("same", ("add", "x", "y"), ("add", "y", "x")))
        self.assert_one(0, ("same", "x", ("add", "x", 1)), ("same", ("sub", "x", 5), "x"), ("same", ("add", "x", 32767), "x"))
        self.assert_one(("same", "x", "y"), ("same", "y", "x"), ("same", ("sub", "x", "y"), 0), ("same", 0, ("sub", "x", "y")),
                        ("same", ("add", "x", 9), ("add", 9, "y")), ("same", ("sub", 0, "x"), ("sub", 0, "y")))
        self.assert_unlike(0, 1, ("same", "x", "y"), ("same", "x", ("add", "y", 1)), ("same", "x", 0), ("same", "x", "z"),
                           ("same", ("mul", 2, "x"), ("mul", 2, "y")), ("same", ("add", "x", "y"), 0),
                           ("same", ("add", "x", 1), "y"), ("same", ("mul", "x", -32768), 0))

    def test_mul(self):
        self.assert_one(("mul", "x", "y"), ("mul", "y", "x"), ("mul", ("copy", "y"), ("add", "x", 0)))
        self.assert_unlike(("mul", "x", "y"), ("mul", "x", "z"), ("mul", "x", "x"), ("mul", ("mul", "x", 2), "y"),
                           ("mul", 2, ("mul", "x", "y")), ("mul", "x", ("add", "y", 1)),
                           ("add", ("mul", "x", "y"), "x"), ("mul", ("sub", 0, "x"), ("sub", 0, "y")))
        self.assert_unlike(("mul", ("mul", "x", "y"), "z"), ("mul", "x", ("mul", "y", "z")))

    def test_pick(self):
        self.assert_one("y", ("pick", 1, "y", "z"), ("pick", -1, "y", "z"), ("pick", 0, "z", "y"), ("pick", "x", "y", "y"))
        self.assert_one(("pick", "x", 2, 3), ("pick", ("add", "x", 0), ("add", 1, 1), 3))
        self.assert_unlike(("pick", "x", "y", "z"), ("pick", "x", "z", "y"), ("pick", "y", "y", "z"), "y", "z",
                           ("pick", ("same", "x", 0), "z", "y"))

    def test_at(self):
        made = ("make", "x", 7, "y")
        self.assert_one("x", ("at", made, 0))
        self.assert_one(7, ("at", made, 1))
        self.assert_one("y", ("at", made, 2), ("at", made, ("sub", 3, 1)), ("at", ("keep", made), 2))
        self.assert_one(0, *[("at", made, k) for k in (-1, 3, 32767, -32768)], ("at", ("make",), 0))
        self.assert_one("x", ("at", ("many", 3, "x"), 0), ("at", ("many", 3, "x"), 2), ("at", ("many", 41, "x"), 39))
        self.assert_one(0, *[("at", ("many", 3, "x"), k) for k in (-1, 3)], ("at", ("many", 0, "x"), 0),
                        ("at", ("many", -5, "x"), 0), ("at", ("many", 41, "x"), 40), ("at", ("many", 32767, "x"), 41))
        self.assert_unlike("x", 0, ("at", made, "x"), ("at", "r", 0), ("at", "r", 1), ("at", "r", "x"), ("at", "s", 0),
                           ("at", ("many", "x", "x"), 0), ("at", ("many", 3, "x"), "y"), ("at", ("put", "r", 0, "x"), 0),
                           ("at", ("put", made, "y", "x"), 0))

    def test_size(self):
        self.assert_one(3, ("size", ("make", "x", 7, "y")), ("size", ("many", 3, "x")), ("size", ("keep", ("make", 1, 1, 1))))
        self.assert_one(0, ("size", ("make",)), ("size", ("many", 0, "x")), ("size", ("many", -3, "x")))
        self.assert_one(40, ("size", ("many", 40, 0)), ("size", ("many", 41, 0)), ("size", ("many", 32767, "y")))
        self.assert_one(("size", "r"), ("size", ("put", "r", "x", "y")), ("size", ("put", ("put", "r", 0, 1), "z", 1)))
        self.assert_one(3, ("size", ("put", ("make", 1, 2, 3), "x", 1)), ("size", ("put", ("many", 3, "x"), 0, 1)))
        self.assert_one(("size", ("many", "x", 1)), ("size", ("put", ("many", "x", 1), 0, 0)))
        self.assert_unlike(("size", "r"), ("size", "s"), ("size", ("many", "x", 1)), ("size", ("many", "x", 2)),
                           ("size", ("many", "y", 1)), "x", 0)

    def test_put(self):
        made = ("make", "x", 7)
        self.assert_one(("make", "y", 7), ("put", made, 0, "y"))
        self.assert_one(("make", "x", "y"), ("put", made, 1, "y"), ("put", ("put", made, 0, "x"), 1, "y"))
        self.assert_one(made, *[("put", made, k, "y") for k in (-1, 2, 32767)], ("put", made, 0, "x"), ("put", made, 1, 7))
        self.assert_unlike(made, ("put", made, "y", "y"), ("put", "r", 0, "y"), ("put", "r", 0, "x"), ("put", "r", 1, "y"),
                           ("put", ("many", 2, 7), 0, 7), ("many", 2, 7), ("put", ("put", "r", 0, "x"), 0, "y"), "r")
        self.assert_unlike(("put", "r", -1, 0), "r")

    def test_all_else_is_a_thing(self):
        self.assert_unlike(("many", 2, 7), ("make", 7, 7), ("many", 2, 8), ("many", 3, 7), ("many", 0, 1), ("many", -1, 1),
                           ("make",), ("make", 7), ("make", "x", "y"), ("make", "y", "x"), ("many", "x", 7), ("many", "x", "x"))
        self.assert_one(("many", "x", 7), ("many", ("copy", "x"), ("add", 3, 4)))
        self.assert_one(("make", "x", ("add", "y", "x")), ("make", ("copy", "x"), ("add", "x", "y")))

    def test_tables_are_apart(self):
        other = Forms()
        self.assertEqual(other.whole(other.plain(3)), 3)
        self.assertIsNone(other.whole(other.thing("n", ("x",))))
        self.assertEqual(self.forms.whole(self.forms.plain(4)), 4)


class ManyFormsTest(unittest.TestCase):
    def test_long_chains(self):
        """Thousands of rows, each from those ahead: sums that grow, puts into puts, numbers doubled."""
        forms = Forms()
        total = forms.plain(0)
        rows = [forms.thing("r", ("row",))]
        doubled = forms.thing("n", ("x",))
        things = [forms.thing("n", (k,)) for k in range(3000)]
        for k, thing in enumerate(things):
            total = forms.made("add", (total, thing) if k % 2 else (thing, total))
            rows.append(forms.made("put", (rows[-1], thing, total if k % 3 else thing)))
            doubled = forms.made("add", (doubled, doubled))
        self.assertEqual(forms.whole(doubled), 0)
        self.assertEqual(forms.made("size", (rows[-1],)), forms.made("size", (rows[0],)))
        for thing in reversed(things):
            total = forms.made("sub", (total, thing))
        self.assertEqual(forms.whole(total), 0)

    def test_a_table_of_thousands_drawn(self):
        for seed in range(3):
            chance = random.Random(seed)
            forms = Forms()
            told = {"n": [forms.thing("n", (k,)) for k in range(6)], "r": [forms.thing("r", (k,)) for k in range(2)]}
            values = {form: chance.choice([0, 1, 2, -1, 7]) for form in told["n"]}
            values.update({form: (3, 1, 2)[:chance.randrange(4)] for form in told["r"]})
            for k in range(4000):
                op = chance.choice([*OPS, "add", "mul", "sub"])
                taken = tuple(chance.choice(told[kind]) if chance.random() < 0.8 or kind == "r"
                              else forms.plain(chance.choice([0, 1, 2, 5])) for kind in OPS[op])
                for form in taken:
                    values.setdefault(form, forms.whole(form))
                form = forms.made(op, taken)
                value = done(op, tuple(values[inner] for inner in taken))
                # Equal forms have equal values.
                self.assertEqual(values.setdefault(form, value), value)
                self.assertIn(forms.whole(form), (None, value))
                told[TOLD[op]].append(form)


class DrawnTest(unittest.TestCase):
    """Against a second table, in which a form is all that it is made of."""

    def drawn(self, chance, forms):
        """Rows of (op, places): each reads those ahead; the first ones are things and plain numbers."""
        rows = [("thing", kind, k) for kind in "nr" for k in range(2)] + [("plain", k) for k in (0, 1, 2, -1)]
        kinds = list("nnrrnnnn")
        for k in range(40):
            op = chance.choice([*OPS, "make", "add", "sub", "same", "at", "size", "put", "copy", "mul"])
            due = OPS.get(op, "n" * chance.randrange(4))
            places = [chance.choice([at for at, kind in enumerate(kinds) if kind == d]) for d in due]
            rows.append((op, *places))
            kinds.append(TOLD.get(op, "r"))
        return rows, kinds

    def made_in(self, rows, thing, plain, made):
        told = []
        for row in rows:
            if row[0] == "thing":
                told.append(thing(row[1], (row[1], row[2])))
            elif row[0] == "plain":
                told.append(plain(row[1]))
            else:
                told.append(made(row[0], tuple(told[place] for place in row[1:])))
        return told

    def test_one_form_just_where_the_second_table_tells_one(self):
        for seed in range(400):
            forms = Forms()
            rows, kinds = self.drawn(random.Random(seed), forms)
            told = self.made_in(rows, forms.thing, forms.plain, forms.made)
            second = self.made_in(rows, second_checker.thing, second_checker.plain, second_checker.made)
            firsts = {}
            for form, other, kind in zip(told, second, kinds):
                self.assertEqual(firsts.setdefault(form, other), other)
                self.assertEqual(forms.kind(form), kind)
                self.assertEqual(forms.whole(form), second_checker.whole(other))
            self.assertEqual(len(set(told)), len(set(second)))

    def test_equal_forms_have_equal_values_and_stay_equal(self):
        for seed in range(400):
            chance = random.Random(seed)
            forms = Forms()
            rows, kinds = self.drawn(chance, forms)
            told = self.made_in(rows, forms.thing, forms.plain, forms.made)
            for tried in range(4):
                things = {("n", k): chance.choice([0, 1, 2, -1, 32767, -32768]) for k in range(2)}
                things.update({("r", k): tuple(chance.choice([0, 5]) for j in range(chance.randrange(4))) for k in range(2)})
                values = self.made_in(rows, lambda kind, label: things[label], lambda number: number, done)
                # Things put by forms of their kinds: by some that were made ahead.
                puts = {label: chance.choice([f for f, kind in zip(told, kinds) if kind == label[0]]) for label in things}
                again = self.made_in(rows, lambda kind, label: puts[label], forms.plain, forms.made)
                by_form, put = {}, {}
                for form, value, other in zip(told, values, again):
                    self.assertEqual(by_form.setdefault(form, value), value)
                    self.assertEqual(put.setdefault(form, other), other)


if __name__ == "__main__":
    unittest.main()
