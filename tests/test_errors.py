"""Point 4: the errors."""

import unittest

from deadlevers import errors
from helpers import ANY_VALUES, Case

PLACED = ("BadTree", "BadTable", "BadSetting", "BadList", "BadLot", "BadText", "BadGrammar", "BadNet", "Refused",
          "PaperFault")
ALL = tuple((name, "at") for name in PLACED) + (("TooGreat", "most"),)


class ErrorsTest(Case):

    def test_bases(self):
        self.assertEqual(errors.LeverError.__bases__, (ValueError,))
        self.assertEqual(errors.NoLever.__bases__, (KeyError,))
        for name, _ in ALL:
            self.assertEqual(getattr(errors, name).__bases__, (errors.LeverError,))

    def test_arguments_are_kept(self):
        for name, attribute in ALL + (("NoLever", "lever"),):
            kind = getattr(errors, name)
            for value in ANY_VALUES:
                self.assertIs(getattr(kind(value), attribute), value)
                self.assertIs(getattr(kind(**{attribute: value}), attribute), value)

    def test_caught_by_base(self):
        for name, _ in ALL:
            with self.assertRaises(errors.LeverError):
                raise getattr(errors, name)(3)
        with self.assertRaises(KeyError):
            raise errors.NoLever(3)
        self.assertFalse(issubclass(errors.NoLever, errors.LeverError))
        with self.assertRaises(ValueError):
            raise errors.LeverError()


if __name__ == "__main__":
    unittest.main()
