"""Point 3 and the interface's entry "errors"."""

import unittest

from samepaper.errors import NoCode, NoKind, NoMiddle, NoPaper, NoText, SameError

FIELDS = {
    NoText: ("line",),
    NoKind: ("line", "word"),
    NoMiddle: ("function", "block", "row"),
    NoPaper: ("function", "block", "row", "word"),
    NoCode: ("function", "step"),
}


class ErrorsTest(unittest.TestCase):
    def test_fields_are_kept_in_their_order(self):
        things = ("a", None, -1, (1, ("b",)))
        for error, fields in FIELDS.items():
            made = error(*things[:len(fields)])
            for field, thing in zip(fields, things):
                self.assertEqual(getattr(made, field), thing)
            self.assertEqual(set(vars(made)), set(fields))

    def test_fields_may_be_told_by_name(self):
        for error, fields in FIELDS.items():
            made = error(**{field: field for field in fields})
            for field in fields:
                self.assertEqual(getattr(made, field), field)

    def test_made_of_just_these(self):
        for error, fields in FIELDS.items():
            with self.assertRaises(TypeError):
                error(*range(len(fields) + 1))
            with self.assertRaises(TypeError):
                error(*range(len(fields) - 1))

    def test_fields_are_not_looked_at(self):
        class Shy:
            def __repr__(self):
                raise AssertionError("looked at")

            __str__ = __eq__ = __hash__ = __bool__ = __repr__

        for error, fields in FIELDS.items():
            error(*[Shy() for field in fields])

    def test_all_under_one_base_and_none_under_another(self):
        self.assertTrue(issubclass(SameError, ValueError))
        for error in FIELDS:
            self.assertTrue(issubclass(error, SameError))
            for other in FIELDS:
                self.assertEqual(issubclass(error, other), error is other)

    def test_they_are_raised_and_shown(self):
        for error, fields in FIELDS.items():
            with self.assertRaises(SameError) as caught:
                raise error(*range(len(fields)))
            self.assertIsInstance(str(caught.exception), str)


if __name__ == "__main__":
    unittest.main()
