"""[0.21]: what errors are derived from, and what they keep."""

import unittest

from rampworks import errors

WITH_MESSAGE = (
    "InvalidRow", "InvalidLot", "InvalidReading", "InvalidNetwork", "InvalidGrowth", "InvalidOperation",
    "InvalidText", "InvalidClaim")
KEEPING = {
    "ParseError": (errors.RampError, "spot"), "InvalidNumber": (IndexError, "given"),
    "UnknownName": (KeyError, "wanted"), "TooMany": (OverflowError, "limit"),
    "NothingToUndo": (LookupError, "done"), "Refused": (ArithmeticError, "reason")}
VALUES = (None, True, 0, -1, 10 ** 99, "", "text", (), ("zero",), ("places", (1, 2), (3,)), [1], {"a": [1]}, 5)


class Errors(unittest.TestCase):

    def test_direct_bases(self):
        self.assertEqual(errors.RampError.__bases__, (ValueError,))
        for name in WITH_MESSAGE:
            self.assertEqual(getattr(errors, name).__bases__, (errors.RampError,))
        for name, (base, _) in KEEPING.items():
            self.assertEqual(getattr(errors, name).__bases__, (base,))

    def test_none_is_caught_as_another_one(self):
        names = WITH_MESSAGE + tuple(KEEPING)
        for one in names:
            for other in names:
                if one != other:
                    self.assertFalse(issubclass(getattr(errors, one), getattr(errors, other)), (one, other))

    def test_what_is_a_ramp_error(self):
        for name in WITH_MESSAGE + ("ParseError",):
            self.assertTrue(issubclass(getattr(errors, name), errors.RampError))
        for name in KEEPING:
            if name != "ParseError":
                self.assertFalse(issubclass(getattr(errors, name), errors.RampError))

    def test_messages(self):
        for name in WITH_MESSAGE + ("RampError",):
            raised = getattr(errors, name)("what is wrong")
            self.assertEqual(str(raised), "what is wrong")
            with self.assertRaises(getattr(errors, name)):
                raise raised

    def test_what_is_kept(self):
        for name, (base, attribute) in KEEPING.items():
            for value in VALUES:
                with self.assertRaises(base) as caught:
                    raise getattr(errors, name)(value)
                self.assertIs(getattr(caught.exception, attribute), value)

    def test_all_are_here(self):
        found = {name for name, value in vars(errors).items() if isinstance(value, type)}
        self.assertEqual(found, {"RampError", *WITH_MESSAGE, *KEEPING})
