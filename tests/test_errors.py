"""[3]: the fifteen refusals."""

import unittest

from shortglue import errors

WITH_FIELD = {
    "TooMany": "most", "NoPiece": "at", "NoLap": "k", "NotHeld": "at", "TooGreat": "most",
    "NotApart": "at", "NoCounts": "at", "NotCovered": "at", "NoLine": "at",
}
WITHOUT_FIELD = ("NoOrder", "NoTable", "NoRing", "NoWords", "NoPaper", "NotTold")
NAMES = tuple(WITH_FIELD) + WITHOUT_FIELD


def made(name, number):
    kind = getattr(errors, name)
    return kind(number) if name in WITH_FIELD else kind()


class Refusals(unittest.TestCase):
    def test_there_are_fifteen(self):
        self.assertEqual(len(set(NAMES)), 15)

    def test_glue_error_stands_straight_below_value_error(self):
        self.assertEqual(errors.GlueError.__bases__, (ValueError,))

    def test_each_stands_straight_below_glue_error(self):
        for name in NAMES:
            with self.subTest(name):
                self.assertEqual(getattr(errors, name).__bases__, (errors.GlueError,))

    def test_each_is_no_other(self):
        for number, name in enumerate(NAMES):
            refusal = made(name, number)
            with self.subTest(name):
                self.assertIsInstance(refusal, errors.GlueError)
                self.assertIsInstance(refusal, ValueError)
                self.assertEqual([other for other in NAMES if isinstance(refusal, getattr(errors, other))], [name])

    def test_fields_are_what_was_handed_in(self):
        for number, (name, field) in enumerate(WITH_FIELD.items()):
            for value in (number + 17, 0, -3, 10 ** 5000):
                with self.subTest(name):
                    refusal = made(name, value)
                    self.assertTrue(getattr(refusal, field) == value)
                    self.assertEqual(list(vars(refusal)), [field])

    def test_two_objects_keep_their_own_field(self):
        one, other = errors.NoPiece(3), errors.NoPiece(5)
        self.assertEqual((one.at, other.at), (3, 5))

    def test_each_can_be_raised_and_taken_by_its_bases(self):
        for name in NAMES:
            for base in (getattr(errors, name), errors.GlueError, ValueError):
                with self.subTest(name), self.assertRaises(base):
                    raise made(name, 7)


if __name__ == "__main__":
    unittest.main()
