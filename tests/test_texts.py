"""Point 14: numbers as texts."""

import re
import unittest

from rulesheld.errors import BadDyadic, InvalidText, NotText
from rulesheld.formats import is_dyadic
from rulesheld.texts import read_number, write_number

from tests.helpers import STRANGE

FORM = re.compile(r"(-?[1-9][0-9]*)\*2\^(0|-?[1-9][0-9]*)")

FACTORS = (1, -1, 3, -3, 7, 99, 101, -1001, 2 ** 63 + 1, 10 ** 39 + 1, 10 ** 40 - 1, 1 - 10 ** 40)
POWERS = (0, 1, -1, 2, -2, 9, 10, -10, 99, 100, -100, 399, 400, -399, -400)


def expected(text):
    """The value of a text in the words of the point; None if it is no text of a value."""
    if text in ("inf", "-inf"):
        return text
    if text == "0":
        return (0, 0)
    found = FORM.fullmatch(text)
    if not found:
        return None
    n, k = int(found.group(1)), int(found.group(2))
    if n % 2 == 0 or abs(n) > 10 ** 40 or abs(k) > 400:
        return None
    return (n, k)


class Write(unittest.TestCase):
    def test_some(self):
        for value, text in (
                ((0, 0), "0"), ((1, 0), "1*2^0"), ((-1, 0), "-1*2^0"), ((-3, -2), "-3*2^-2"), ((5, 7), "5*2^7"),
                ((15, 40), "15*2^40"), ((1, -400), "1*2^-400"), ((1, 400), "1*2^400"), ("inf", "inf"),
                ("-inf", "-inf"), ((10 ** 40 - 1, 0), "9" * 40 + "*2^0")):
            got = write_number(value)
            self.assertEqual(got, text)
            self.assertIsInstance(got, str)

    def test_errors(self):
        for value in STRANGE + (
                0, 1, "1*2^0", "Inf", "+inf", "nan", (2, 0), (-4, 1), (0, 1), (0, -1), (1, 401), (1, -401),
                (10 ** 40 + 1, 0), (-10 ** 40 - 1, 0), (10 ** 40, 0), (True, 0), (1, False), (1,), (1, 0, 0),
                [1, 0], ("1", "0"), ((1, 0),), ("inf",), b"inf"):
            if value not in ("inf", "-inf"):
                with self.assertRaises(BadDyadic):
                    write_number(value)


class Read(unittest.TestCase):
    def test_what_is_written_is_read_back(self):
        for n in FACTORS:
            for k in POWERS:
                self.assertIs(is_dyadic((n, k)), True)
                self.assertEqual(write_number((n, k)), f"{n}*2^{k}")
                self.assertEqual(read_number(write_number((n, k))), (n, k))
        for value in ((0, 0), "inf", "-inf"):
            self.assertEqual(read_number(write_number(value)), value)

    def test_each_small_number(self):
        for n in range(-301, 302, 2):
            for k in range(-41, 42):
                self.assertEqual(read_number(write_number((n, k))), (n, k))

    def test_texts_with_one_character_more_less_or_other(self):
        for text in ("0", "inf", "-inf", "1*2^0", "-3*2^-2", "15*2^40", "105*2^400", "-1*2^-400", "5*2^-10"):
            for k in range(len(text) + 1):
                for sign in "0123456789-+*^ einf_.,x\n\t٣³":
                    self.check(text[:k] + sign + text[k:])
                    self.check(text[:k] + sign + text[k + 1:])
                self.check(text[:k] + text[k + 1:])
                self.check(text[:k])
                self.check(text[k:])

    def check(self, text):
        value = expected(text)
        if value is None:
            with self.assertRaises(InvalidText, msg=repr(text)):
                read_number(text)
        else:
            self.assertEqual(read_number(text), value)
            self.assertEqual(write_number(value), text)

    def test_limits(self):
        digits = "9" * 40
        self.assertEqual(read_number(digits + "*2^400"), (10 ** 40 - 1, 400))
        self.assertEqual(read_number("-" + digits + "*2^-400"), (1 - 10 ** 40, -400))
        for text in (
                "1" + "0" * 39 + "1*2^0", "-1" + "0" * 39 + "1*2^0", "1" + "0" * 40 + "*2^0", digits + "*2^401",
                digits + "*2^-401", "1*2^401", "1*2^-401", "1*2^1000", "1*2^4000", "1" * 41 + "*2^0",
                "1*2^" + "1" * 41, "1" * 5000 + "*2^0", "-" + "1" * 5000 + "*2^0", "1*2^" + "1" * 5000,
                "1*2^-" + "1" * 5000, "1*2^" + "0" * 5000, "0" * 5000, "0" * 5000 + "1*2^0"):
            with self.assertRaises(InvalidText, msg=text[:60]):
                read_number(text)

    def test_invalid_texts(self):
        for text in (
                "", " ", "-", "+", "1", "-1", "5", "15", "*2^0", "-*2^0", "1*2^", "1*2^-", "1*2", "1*", "2^0", "^",
                "1**2^0", "1*2^^0", "1*3^0", "1*20", "1*2^0*2^0", "1*2^1*2^1", "1*2^0.0", "1.0*2^0", "1e1*2^0",
                "0*2^0", "-0*2^0", "0*2^1", "-0", "+0", "00", "0.0", "2*2^0", "4*2^0", "-10*2^3", "01*2^0", "-01*2^0",
                "1*2^00", "1*2^01", "1*2^-01", "1*2^-0", "1*2^+0", "1*2^+1", "+1*2^0", "--1*2^0", "1*2^--1",
                " 1*2^0", "1*2^0 ", "1 *2^0", "1* 2^0", "1*2 ^0", "1*2^ 0", "- 1*2^0", "1*2^- 1", "1*2^0\n",
                "\n1*2^0", "1_1*2^0", "1*2^1_0", "0x1*2^0", "Inf", "INF", "+inf", "--inf", "- inf", "inf ", " inf",
                "-inf\n", "infinity", "nan", "inf*2^0", "(1, 0)", "1,0", "1*2**0", "١*2^0", "1*2^٣", "１*2^0", "1*2^²",
                "1\u00b2*2^0", "\u22121*2^0", "\u221e", "one", "None", "True", "\x00", "1*2^0\x00", "\ud800"):
            with self.assertRaises(InvalidText, msg=repr(text)):
                read_number(text)

    def test_values_that_are_no_texts(self):
        for value in STRANGE + (0, 1, -1, (1, 0), (0, 0), b"0", b"1*2^0", ["0"], ("0",), {"0": 0}):
            if not isinstance(value, str):
                with self.assertRaises(NotText):
                    read_number(value)


if __name__ == "__main__":
    unittest.main()
