"""[0.3] and the interface of unseenheap.errors."""

import copy
import unittest

from unseenheap import errors
from unseenheap.errors import HeapError

WITHOUT_FIELDS = (
    "NoText TooDeep NoProgram NoNumber NoRow NoClass NoCode NoRule NoWord NoRoom NoSort NoItems NoHandle NoThing"
    " NoPlace NoLayout"
).split()
WITH_FIELDS = {
    "BadText": ["line"], "BadNames": ["word", "name"], "NoMoments": ["at"], "BadCode": ["part"], "BadUnit": ["part"],
    "NotLet": ["code", "row"], "BadLine": ["line"], "BadRoom": ["part"], "HeapFull": ["taken"], "BadImage": ["line"],
}
ALL = {**{name: [] for name in WITHOUT_FIELDS}, **WITH_FIELDS}


class Errors(unittest.TestCase):
    def test_there_are_26_and_no_others(self):
        self.assertEqual(len(ALL), 26)
        found = [name for name, thing in vars(errors).items() if isinstance(thing, type)]
        self.assertEqual(sorted(found), sorted([*ALL, "HeapError"]))

    def test_each_derives_directly(self):
        self.assertEqual(HeapError.__bases__, (ValueError,))
        for name in ALL:
            self.assertEqual(getattr(errors, name).__bases__, (HeapError,), name)

    def test_none_is_another_ones_subclass(self):
        for name in ALL:
            for other in ALL:
                if name != other:
                    self.assertFalse(issubclass(getattr(errors, name), getattr(errors, other)))

    def test_each_keeps_just_what_it_was_made_with(self):
        for worth in (0, -1, None, "rows", ("top", 3), [1], True, 10 ** 40, b"x"):
            for name, fields in ALL.items():
                told = [(worth, at) if at else worth for at in range(len(fields))]
                error = getattr(errors, name)(*told)
                self.assertIsInstance(error, HeapError)
                self.assertIsInstance(error, ValueError)
                self.assertEqual(vars(error), dict(zip(fields, told)))
                self.assertEqual(error.args, tuple(told))
                for field, part in zip(fields, told):
                    self.assertIs(getattr(error, field), part)

    def test_each_is_made_with_just_its_fields(self):
        for name, fields in ALL.items():
            with self.assertRaises(TypeError, msg=name):
                getattr(errors, name)(*range(len(fields) + 1))
            if fields:
                with self.assertRaises(TypeError, msg=name):
                    getattr(errors, name)(*range(len(fields) - 1))

    def test_errors_are_raised_and_copied_with_their_fields(self):
        with self.assertRaises(ValueError) as caught:
            raise errors.BadNames("twice", "x")
        again = copy.copy(caught.exception)
        self.assertEqual((again.word, again.name), ("twice", "x"))


if __name__ == "__main__":
    unittest.main()
