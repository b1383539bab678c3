import unittest

from rowsmith import errors

WITH_FIELDS = [
    (errors.NoText, "at", 3),
    (errors.NoName, "name", "a"),
    (errors.NoRow, "row", 0),
    (errors.NotRight, "row", 7),
    (errors.TooMany, "text", "too many"),
    (errors.NoExchange, "text", "no exchange"),
    (errors.NoLine, "text", "no line"),
]


class TestErrors(unittest.TestCase):
    def test_fields_are_set_when_made(self):
        for kind, field, value in WITH_FIELDS:
            with self.subTest(kind=kind.__name__):
                self.assertEqual(getattr(kind(value), field), value)

    def test_each_is_taken_by_the_two_above(self):
        for kind, field, value in WITH_FIELDS:
            for above in (errors.RowsmithError, ValueError):
                with self.assertRaises(above):
                    raise kind(value)

    def test_none_stands_under_another(self):
        for kind, field, value in WITH_FIELDS:
            self.assertEqual(kind.__bases__, (errors.RowsmithError,))
            for other, field_of_other, value_of_other in WITH_FIELDS:
                self.assertEqual(isinstance(kind(value), other), kind == other)

    def test_the_one_above_all(self):
        self.assertEqual(errors.RowsmithError.__bases__, (ValueError,))
        with self.assertRaises(ValueError):
            raise errors.RowsmithError("any")


if __name__ == "__main__":
    unittest.main()
