import unittest

from leastmakers import errors
from reckoning import VALUES

FIELDS = {
    "TooGreat": (), "TooMany": ("limit",), "NoFree": (), "NoOne": (),
    "BadMaker": ("path", "word"), "BadLine": ("path", "word"), "BadName": ("name",),
    "Taken": ("name",), "NoName": ("name",), "Hangs": ("name",), "Ring": ("name",),
    "BadSeen": ("seen",), "Differs": ("name", "number"), "TooDeep": (), "BadDeeds": (),
    "Rejected": ("place",), "Full": (), "NothingToUndo": (), "NothingToRedo": (),
    "BadText": ("place",),
}


class Errors(unittest.TestCase):
    def test_there_are_twenty(self):
        self.assertEqual(len(FIELDS), 20)

    def test_base(self):
        self.assertEqual(errors.RoundError.__bases__, (ValueError,))
        with self.assertRaises(ValueError):
            raise errors.RoundError()

    def test_directly_under_the_base(self):
        for name in FIELDS:
            with self.subTest(name):
                self.assertEqual(getattr(errors, name).__bases__, (errors.RoundError,))

    def test_under_no_other_one(self):
        for name in FIELDS:
            for other in FIELDS:
                if name != other:
                    self.assertFalse(issubclass(getattr(errors, name), getattr(errors, other)))

    def test_is_raised_and_caught(self):
        for name, fields in FIELDS.items():
            made = getattr(errors, name)
            for kind in (made, errors.RoundError, ValueError):
                with self.subTest(name), self.assertRaises(kind):
                    raise made(*fields)

    def test_fields_by_position(self):
        for name, fields in FIELDS.items():
            for shift in range(len(VALUES)):
                given = [VALUES[(shift + k) % len(VALUES)] for k in range(len(fields))]
                error = getattr(errors, name)(*given)
                for field, value in zip(fields, given):
                    self.assertIs(getattr(error, field), value, (name, field))

    def test_fields_by_name(self):
        for name, fields in FIELDS.items():
            for shift in range(len(VALUES)):
                given = {field: VALUES[(shift + k) % len(VALUES)] for k, field in enumerate(fields)}
                error = getattr(errors, name)(**dict(reversed(list(given.items()))))
                for field, value in given.items():
                    self.assertIs(getattr(error, field), value, (name, field))

    def test_each_argument_is_needed(self):
        for name, fields in FIELDS.items():
            if fields:
                with self.subTest(name), self.assertRaises(TypeError):
                    getattr(errors, name)()

    def test_two_errors_keep_their_own_fields(self):
        one, other = errors.Differs("a", 1), errors.Differs("b", 2)
        self.assertEqual((one.name, one.number, other.name, other.number), ("a", 1, "b", 2))


if __name__ == "__main__":
    unittest.main()
