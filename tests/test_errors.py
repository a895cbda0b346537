"""[4], [20]: the errors."""

import copy
import unittest

from bowkinds import errors
from helpers import odd_values

FIELDS = {
    "Wrong": "place", "NoBow": "index", "NoWay": "word", "BadDigit": "at",
    "NoNumber": "number", "BadGoing": "at", "NoText": "line",
}
PLAIN = ["NotTight", "Unlike", "Nothing", "BadEdit", "NoCommand"]


class ErrorsTest(unittest.TestCase):
    def test_there_are_twelve_direct_subclasses(self):
        told = [thing for thing in vars(errors).values() if isinstance(thing, type)]
        below = [thing for thing in told if thing is not errors.BowError]
        self.assertEqual(errors.BowError.__bases__, (ValueError,))
        self.assertEqual(sorted(thing.__name__ for thing in below), sorted([*FIELDS, *PLAIN]))
        for thing in below:
            self.assertEqual(thing.__bases__, (errors.BowError,))

    def test_fields_keep_the_very_objects(self):
        for name, field in FIELDS.items():
            for value in [0, 7, -1, "word", [1, [2]], *odd_values()]:
                made = getattr(errors, name)(value)
                self.assertIs(getattr(made, field), value)
                self.assertEqual(list(vars(made)), [field])

    def test_errors_copy_nothing(self):
        value = [1]
        made = errors.NoBow(value)
        value.append(2)
        self.assertEqual(made.index, [1, 2])

    def test_arguments(self):
        for name in FIELDS:
            with self.assertRaises(TypeError):
                getattr(errors, name)()
            with self.assertRaises(TypeError):
                getattr(errors, name)(1, 2)
        for name in PLAIN:
            self.assertEqual(vars(getattr(errors, name)()), {})
            with self.assertRaises(TypeError):
                getattr(errors, name)(1)

    def test_they_are_raised_and_caught(self):
        for name in [*FIELDS, *PLAIN]:
            made = getattr(errors, name)(*([3] if name in FIELDS else []))
            for above in (getattr(errors, name), errors.BowError, ValueError):
                with self.assertRaises(above) as caught:
                    raise made
                self.assertIs(caught.exception, made)

    def test_they_can_be_copied(self):
        for name in [*FIELDS, *PLAIN]:
            made = getattr(errors, name)(*([[3]] if name in FIELDS else []))
            self.assertEqual(vars(copy.deepcopy(made)), vars(made))


if __name__ == "__main__":
    unittest.main()
