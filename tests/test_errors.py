"""The errors: what kinds they are of, and what they bear."""

import unittest

from mighthave import errors

UNDER_MOMENT_ERROR = (
    "NoRun", "NoMoment", "NoName", "NoWay", "NoTest", "NoSaying", "NoSlice", "NoMoments", "NoCounts", "NoSayings",
    "NoSum", "NoTests", "Unfit", "Heard", "NoBack", "NoText", "NoLine",
)
OTHERS = (
    ("NoHand", IndexError, "hand"),
    ("NoPlace", KeyError, "deed"),
    ("NoNumber", LookupError, "number"),
    ("TooWide", OverflowError, "most"),
    ("NoSteps", ArithmeticError, "deed"),
    ("Unknown", KeyError, "name"),
)
ALL = UNDER_MOMENT_ERROR + tuple([name for name, _, _ in OTHERS])


class Errors(unittest.TestCase):

    def test_moment_error_is_a_value_error(self):
        self.assertEqual((ValueError,), errors.MomentError.__bases__)
        self.assertEqual(("a text",), errors.MomentError("a text").args)

    def test_right_under_moment_error(self):
        for name in UNDER_MOMENT_ERROR:
            made = getattr(errors, name)
            self.assertEqual((errors.MomentError,), made.__bases__, name)
            self.assertEqual("a text", str(made("a text")), name)

    def test_of_other_kinds(self):
        for name, kind, _ in OTHERS:
            made = getattr(errors, name)
            self.assertEqual((kind,), made.__bases__, name)
            self.assertFalse(issubclass(made, errors.MomentError), name)

    def test_none_under_another_one(self):
        for one in ALL:
            for other in ALL:
                if one != other:
                    self.assertFalse(issubclass(getattr(errors, one), getattr(errors, other)), (one, other))

    def test_bears_what_it_was_made_of(self):
        for name, _, word in OTHERS:
            made = getattr(errors, name)
            for thing in (0, -1, True, None, "a", (), (0, 1), [], [1, [2]], {"a": 1}, {}, 10 ** 39):
                self.assertIs(thing, getattr(made(thing), word), (name, thing))
                self.assertIs(thing, getattr(made(**{word: thing}), word), (name, thing))

    def test_can_be_raised_and_shown(self):
        for name in ALL:
            made = getattr(errors, name)
            with self.assertRaises(made) as caught:
                raise made("a")
            self.assertIs(made, type(caught.exception))
            self.assertTrue(str(caught.exception))

    def test_stands_in_this_file(self):
        for name in ALL + ("MomentError",):
            self.assertEqual("mighthave.errors", getattr(errors, name).__module__)


if __name__ == "__main__":
    unittest.main()
