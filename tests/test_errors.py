"""Point 4 and the interface's part on the refusals; point 3 on an error's words."""

import unittest

from ballastway import errors

UNDER = {
    "WayError": ["ValueError"],
    "NoWay": ["WayError", "ValueError"],
    "Blocked": ["WayError", "ValueError"],
    "TextError": ["WayError", "ValueError"],
    "BadRow": ["TextError", "WayError", "ValueError"],
    "Twice": ["TextError", "WayError", "ValueError"],
    "NoBridge": ["TextError", "WayError", "ValueError"],
    "NoLoad": ["TextError", "WayError", "ValueError"],
    "TooNear": ["TextError", "WayError", "ValueError"],
    "TooLong": ["TextError", "WayError", "ValueError"],
}
OF_TEXTS = ["TextError", "BadRow", "Twice", "NoBridge", "NoLoad", "TooNear", "TooLong"]
OF_PYTHON = [ArithmeticError, LookupError, RuntimeError, TypeError, UnicodeError, OSError]
MANY = 10 ** 6000 + 7


def refusal(name):
    return getattr(errors, name)


class Standing(unittest.TestCase):
    def test_each_stands_just_where_the_interface_tells(self):
        for name, above in UNDER.items():
            told = [kind.__name__ for kind in refusal(name).__mro__]
            self.assertEqual(told, [name] + above + ["Exception", "BaseException", "object"])

    def test_none_stands_under_another_one(self):
        for name, above in UNDER.items():
            for other in UNDER:
                expected = other == name or other in above
                self.assertIs(issubclass(refusal(name), refusal(other)), expected, (name, other))

    def test_none_stands_under_another_error_of_python(self):
        for name in UNDER:
            for other in OF_PYTHON:
                self.assertFalse(issubclass(refusal(name), other), (name, other))

    def test_each_is_another_class(self):
        self.assertEqual(len({refusal(name) for name in UNDER}), len(UNDER))

    def test_taken_by_every_class_above(self):
        for name in OF_TEXTS:
            for above in [name] + UNDER[name]:
                taken = refusal(above) if above in UNDER else ValueError
                with self.assertRaises(taken):
                    raise refusal(name)(3)


class Fields(unittest.TestCase):
    def test_of_a_text(self):
        for name in ["WayError", "NoWay"]:
            made = refusal(name)("nothing leads there")
            self.assertEqual(str(made), "nothing leads there")
            with self.assertRaises(refusal(name)):
                raise made

    def test_blocked(self):
        for bridge, wheel in [("a", 0), ("longestname", 7), ("b", MANY)]:
            made = errors.Blocked(bridge, wheel)
            self.assertEqual((made.bridge, made.wheel), (bridge, wheel))

    def test_row(self):
        for name in OF_TEXTS:
            for row in [1, 2, 40, MANY]:
                self.assertEqual(refusal(name)(row).row, row)

    def test_two_of_a_class_keep_their_own(self):
        one = errors.BadRow(1)
        other = errors.BadRow(2)
        self.assertEqual((one.row, other.row), (1, 2))
        first = errors.Blocked("a", 1)
        second = errors.Blocked("b", 2)
        self.assertEqual((first.bridge, first.wheel, second.bridge, second.wheel), ("a", 1, "b", 2))


class Words(unittest.TestCase):
    def test_numbers_stay_out_of_the_words(self):
        for number in [987654321, MANY]:
            for made in [refusal(name)(number) for name in OF_TEXTS] + [errors.Blocked("a", number)]:
                for words in [str(made), repr(made)]:
                    self.assertFalse(any(sign.isdigit() for sign in words), words)


if __name__ == "__main__":
    unittest.main()
