import unittest

from samerounds import errors

FIELDS = {
    "BadStars": "place",
    "BadEnds": "place",
    "BadSet": "value",
    "BadDeed": "place",
    "BadNumber": "value",
    "BadName": "value",
    "BadTree": "value",
    "BadText": "place",
}
BARE = ["OtherTies", "Apart", "NothingLeft"]


class Unshown:
    """A value that cannot be shown or compared."""

    def __repr__(self):
        raise AssertionError("shown")

    def __eq__(self, other):
        raise AssertionError("compared")


class ErrorsByHand(unittest.TestCase):
    def test_round_error(self):
        self.assertEqual(errors.RoundError.__bases__, (ValueError,))
        self.assertIsInstance(errors.RoundError(), ValueError)
        self.assertEqual(str(errors.RoundError("why")), "why")

    def test_with_a_field(self):
        for name, field in FIELDS.items():
            made = getattr(errors, name)
            self.assertEqual(made.__bases__, (errors.RoundError,), name)
            for value in (None, 0, 7, "x", (1, 0), [0], 10 ** 999, Unshown()):
                for error in (made(value), made(**{field: value})):
                    self.assertIs(getattr(error, field), value)
                    self.assertIsInstance(str(error), str)

    def test_with_a_field_only(self):
        for name in FIELDS:
            with self.assertRaises(TypeError):
                getattr(errors, name)()
            with self.assertRaises(TypeError):
                getattr(errors, name)(1, 2)

    def test_without_a_field(self):
        for name in BARE:
            made = getattr(errors, name)
            self.assertEqual(made.__bases__, (errors.RoundError,), name)
            self.assertIsInstance(made(), errors.RoundError)
            with self.assertRaises(TypeError):
                made(1)

    def test_too_great(self):
        self.assertEqual(errors.TooGreat.__bases__, (OverflowError,))
        self.assertFalse(issubclass(errors.TooGreat, errors.RoundError))
        self.assertFalse(issubclass(errors.TooGreat, ValueError))
        for error in (errors.TooGreat(12), errors.TooGreat(most=12)):
            self.assertEqual(error.most, 12)
            self.assertIsInstance(str(error), str)

    def test_no_other_direct_subclasses(self):
        listed = {made.__name__ for made in errors.RoundError.__subclasses__()}
        self.assertEqual(listed, {*FIELDS, *BARE})

    def test_defined_in_the_file(self):
        for name in [*FIELDS, *BARE, "RoundError", "TooGreat"]:
            self.assertEqual(getattr(errors, name).__module__, "samerounds.errors")


if __name__ == "__main__":
    unittest.main()
