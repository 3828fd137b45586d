"""Point 25: terms, their forms and values."""

import copy
import random
import unittest

from middles import KINDS

from samepaper.forms import Forms
from samepaper.numbers import done
from samepaper.terms import alike, form_of, kind_of_term, value_of

X, Y, R = (0, "n0"), (1, "n0"), (0, "r0")


def nested(deep, term=1):
    """So many terms within one another, this one the innermost."""
    for k in range(deep - 1):
        term = ("copy", term)
    return term


class KindTest(unittest.TestCase):
    def assert_kind(self, kind, *things):
        for thing in things:
            self.assertEqual(kind_of_term(thing), kind, thing)

    def test_numbers(self):
        self.assert_kind("n", 0, 1, -1, 32767, -32768)
        self.assert_kind(None, 32768, -32769, 10 ** 30, True, False)

    def test_names(self):
        self.assert_kind("n", (0, "n0"), (7, "n99999"), (10 ** 20, "n10"))
        self.assert_kind("r", (0, "r0"), (3, "r12"))
        self.assert_kind(None, (-1, "n0"), (True, "n0"), (False, "n0"), (0, "n00"), (0, "n01"), (0, "n100000"), (0, "x1"),
                         (0, ""), (0, "n"), (0, "n-1"), (0, None), (0, 0), ("0", "n0"), ("n0", 0), (0, "n0", "n0"), (0,),
                         (None, "n0"), ("n0",), (0, ("n0",)), (0, "add"))

    def test_each_operation(self):
        for op, (kind, kinds) in KINDS.items():
            right = tuple({"n": X, "r": R}[k] for k in kinds)
            self.assert_kind(kind, (op, *right))
            self.assert_kind(None, (op, *right, 1), (op, *right[1:]), (op,), (op, *right, R), (op, right))
            for at, k in enumerate(kinds):
                wrong = {"n": R, "r": X}[k]
                self.assert_kind(None, (op, *right[:at], wrong, *right[at + 1:]))
                self.assert_kind(None, *[(op, *right[:at], bad, *right[at + 1:]) for bad in (None, True, "n0", (), 32768)])

    def test_make(self):
        for many in range(9):
            self.assert_kind("r", ("make", *[X] * many))
        self.assert_kind(None, ("make", *[X] * 9), ("make", R), ("make", 1, R), ("make", 1, None))

    def test_within_one_another(self):
        self.assert_kind("n", ("add", ("size", ("put", R, X, ("at", R, 0))), 5))
        self.assert_kind("r", ("put", ("keep", ("many", X, Y)), ("copy", 1), ("mul", X, Y)))
        self.assert_kind(None, ("add", ("size", ("put", R, X, ("at", R, R))), 5), ("add", 1, ("copy", ("copy", None))))

    def test_twelve_within_one_another(self):
        self.assert_kind("n", nested(1), nested(2), nested(12), nested(12, X))
        self.assert_kind("r", nested(2, ("keep", R))[1])
        self.assert_kind(None, nested(13), nested(13, X), nested(100))
        # Wherever it lies.
        self.assert_kind("n", ("pick", 1, 2, nested(11)), ("pick", nested(11), 1, X))
        self.assert_kind(None, ("pick", 1, 2, nested(12)), ("pick", nested(12), 1, X))

    def test_sixty_in_all(self):
        sixty = ("make", *[sum_of(7)] * 7, ("copy", sum_of(9)))
        self.assertEqual(many_in(sixty), 60)
        self.assert_kind("r", sixty)
        for more in (("make", *[sum_of(7)] * 7, ("copy", ("copy", sum_of(9)))), ("make", *[sum_of(7)] * 7, sum_of(11))):
            self.assertEqual(many_in(more), 61)
            self.assert_kind(None, more)
        # Sixty-three by twos.
        self.assert_kind("n", balanced(5))
        self.assert_kind(None, balanced(6))

    def test_very_large_things(self):
        term = 1
        for k in range(99):
            term = ("pick", term, term, term)
        self.assert_kind(None, term)
        self.assert_kind(None, ("make", *[1] * 100000), ("pick", ("make", *[1] * 5000), 1, 1))

    def test_all_that_is_none(self):
        things = [None, "", "n0", "add", (), (None,), ("",), ("and", 1, 1), ("not", 1), ("tick",), ("add",), ((0, "n0"),),
                  (("add", 1, 2),), (1, 2), (1,), ("copy", "n0"), ("n0", "copy", (1,)), ("new", 1), [0, "n0"], ["add", 1, 2],
                  ("add", [0, "n0"], 1), {}, ([], 1, 2), ({}, 1), ("add", 1, {}), (b"add", 1, 2), (0, [])]
        self.assert_kind(None, *things)
        deep = ()
        for k in range(99):
            deep = (deep,)
        self.assert_kind(None, deep, ("copy", deep))


def many_in(term):
    return 1 + sum(map(many_in, term[1:])) if isinstance(term, tuple) and isinstance(term[0], str) else 1


def sum_of(many):
    """A term of so many in all, an odd number."""
    return X if many == 1 else ("add", 1, sum_of(many - 2))


def balanced(deep):
    return X if deep == 1 else ("add", balanced(deep - 1), balanced(deep - 1))


class FormTest(unittest.TestCase):
    def test_form_of(self):
        forms = Forms()
        x, y, r = forms.thing("n", ("x",)), forms.thing("n", ("y",)), forms.thing("r", ("r",))
        names = {X: x, Y: y, R: r, (2, "n5"): forms.plain(4)}
        kept = copy.deepcopy(names)
        self.assertEqual(form_of(forms, 7, names), forms.plain(7))
        self.assertEqual(form_of(forms, X, names), x)
        self.assertEqual(form_of(forms, ("add", X, ("copy", Y)), names), forms.made("add", (y, x)))
        self.assertEqual(form_of(forms, ("put", R, (2, "n5"), ("sub", X, X)), names),
                         forms.made("put", (r, forms.plain(4), forms.plain(0))))
        self.assertEqual(form_of(forms, ("make",), names), forms.made("make", ()))
        self.assertEqual(form_of(forms, ("add", (2, "n5"), 1), names), forms.plain(5))
        self.assertEqual(names, kept)

    def test_a_name_that_lacks(self):
        forms = Forms()
        names = {X: forms.thing("n", ("x",))}
        for term in (Y, R, ("add", X, Y), ("mul", 0, Y), ("sub", Y, Y), ("pick", 1, X, Y), ("size", R), ("make", X, Y),
                     ("size", ("make", Y)), (0, "n1"), (1, "n1")):
            self.assertIsNone(form_of(forms, term, names), term)
            self.assertIsNone(form_of(forms, term, {}), term)
        self.assertEqual(form_of(forms, 3, {}), forms.plain(3))

    def test_value_of(self):
        values = {X: 7, Y: -2, R: (5, 6)}
        kept = copy.deepcopy(values)
        self.assertEqual(value_of(3, {}), 3)
        self.assertEqual(value_of(X, values), 7)
        self.assertEqual(value_of(R, values), (5, 6))
        self.assertEqual(value_of(("add", X, ("mul", Y, 3)), values), 1)
        self.assertEqual(value_of(("put", R, 1, ("size", R)), values), (5, 2))
        self.assertEqual(value_of(("div", X, 0), values), 0)
        self.assertEqual(value_of(("make", X, Y, 1), values), (7, -2, 1))
        self.assertEqual(value_of(("make",), values), ())
        self.assertEqual(value_of(("many", 41, Y), values), (-2,) * 40)
        self.assertIs(type(value_of(("make", 1), values)), tuple)
        self.assertEqual(values, kept)

    def test_alike(self):
        for one, other in ((X, X), (5, ("add", 2, 3)), (("add", X, Y), ("add", Y, X)), (("sub", X, X), 0),
                           (("size", ("put", R, X, Y)), ("size", R)), (("same", X, Y), ("same", Y, X)), (R, ("keep", R))):
            self.assertIs(alike(one, other), True)
            self.assertIs(alike(other, one), True)
        for one, other in ((X, Y), (X, (0, "n1")), (X, 0), (("sub", X, Y), 0), (R, (1, "r0")), (("less", X, Y), ("less", Y, X)),
                           (X, R), (("many", 1, 1), ("make", 1))):
            self.assertIs(alike(one, other), False)
            self.assertIs(alike(other, one), False)

    def test_by_chance(self):
        """Alike terms have equal values; a term's form has its value where names are plain numbers."""
        for seed in range(1500):
            chance = random.Random(seed)
            one, other = drawn(chance, "n", 4), drawn(chance, "n", 4)
            self.assertEqual(kind_of_term(one), "n")
            values = {(d, f"n{k}"): chance.choice([0, 1, 2, -1, 5]) for d in range(2) for k in range(2)}
            values.update({(d, "r0"): tuple(chance.choice([0, 4]) for j in range(chance.randrange(3))) for d in range(2)})
            if alike(one, other):
                self.assertEqual(value_of(one, values), value_of(other, values))
            forms = Forms()
            names = {name: forms.plain(value) if name[1][0] == "n"
                     else forms.made("make", tuple(forms.plain(v) for v in value)) for name, value in values.items()}
            number = forms.whole(form_of(forms, one, names))
            self.assertIn(number, (None, value_of(one, values)))


def drawn(chance, kind, deep):
    if deep == 1 or chance.random() < 0.2:
        depth = chance.randrange(2)
        if kind == "r":
            return (depth, "r0")
        return chance.choice([(depth, "n0"), (depth, "n1"), 0, 1, 2])
    op = chance.choice([op for op, (told, kinds) in KINDS.items() if told == kind])
    return (op, *(drawn(chance, k, deep - 1) for k in KINDS[op][1]))


class SameValueTest(unittest.TestCase):
    def test_value_is_what_the_operations_tell(self):
        for op, (kind, kinds) in KINDS.items():
            names = tuple((0, f"{k}{at}") for at, k in enumerate(kinds))
            values = {name: 1 if name[1][0] == "n" else (4, 5) for name in names}
            self.assertEqual(value_of((op, *names), values), done(op, tuple(values[name] for name in names)))


if __name__ == "__main__":
    unittest.main()
