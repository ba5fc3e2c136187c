"""Points 2 to 4: formats, dyadics and the numbers of a format."""

import unittest
from fractions import Fraction

from rulesheld.errors import BadDyadic, BadFormat, BadNumber
from rulesheld.formats import (
    count_numbers, is_dyadic, is_format, is_number, largest, next_up, smallest, smallest_normal,
)

from tests.helpers import EXAMPLE, HUGE_WAYS, MODES, STRANGE, TINY_WAYS, dyadic, formats, numbers_of, value, ways

SMALL = [
    (4, 0, 0), (4, -1, 0), (4, -2, 1), (4, -6, -3), (4, 3, 6), (5, -3, 0), (5, 2, 2), (6, -4, 1),
    (4, -40, -38), (4, 38, 40), (10, -2, 0),
]


def changed(at, part):
    return EXAMPLE[:at] + (part,) + EXAMPLE[at + 1:]


class IsFormat(unittest.TestCase):
    def test_formats(self):
        for p in range(4, 11):
            for way in ways():
                self.assertIs(is_format((p, -6, 4) + way), True)

    def test_limits_of_the_precision(self):
        for p, expected in ((3, False), (4, True), (10, True), (11, False), (0, False), (-4, False)):
            self.assertIs(is_format(changed(0, p)), expected, p)

    def test_limits_of_the_exponents(self):
        for low, high, expected in (
                (-40, -40, True), (-41, -40, False), (-41, -41, False), (40, 40, True), (40, 41, False),
                (41, 41, False), (0, 0, True), (1, 0, False), (0, 20, True), (0, 21, False), (-40, -20, True),
                (-40, -19, False), (20, 40, True), (21, 41, False), (19, 40, False), (30, 40, True), (31, 41, False),
                (-20, -40, False), (-10, 10, True), (-10, 11, False), (5, 4, False)):
            form = (4, low, high, "even", "gradual", "infinite")
            self.assertIs(is_format(form), expected, form)

    def test_wrong_words(self):
        for at, words in ((3, MODES), (4, TINY_WAYS), (5, HUGE_WAYS)):
            for word in words:
                self.assertIs(is_format(changed(at, word)), True)
                self.assertIs(is_format(changed(at, word.upper())), False)
                self.assertIs(is_format(changed(at, " " + word)), False)
        self.assertIs(is_format((4, -6, 4, "even", "infinite", "gradual")), False)
        self.assertIs(is_format((4, -6, 4, "gradual", "gradual", "infinite")), False)

    def test_strange_parts(self):
        for part in STRANGE:
            for at in range(6):
                if (at, part) != (3, "even"):
                    self.assertIs(is_format(changed(at, part)), False, (at, part))

    def test_booleans_are_no_exponents(self):
        self.assertIs(is_format((4, 0, 1, "even", "gradual", "infinite")), True)
        self.assertIs(is_format((4, False, 1, "even", "gradual", "infinite")), False)
        self.assertIs(is_format((4, 0, True, "even", "gradual", "infinite")), False)

    def test_other_values(self):
        for other in STRANGE + (0, 4, -10 ** 50, (), EXAMPLE[:5], EXAMPLE + ("infinite",), list(EXAMPLE), (EXAMPLE,)):
            self.assertIs(is_format(other), False, other)


class IsDyadic(unittest.TestCase):
    def test_dyadics(self):
        for n in (1, -1, 3, -3, 17, 10 ** 40 - 1, 1 - 10 ** 40):
            for k in (0, 1, -1, 400, -400):
                self.assertIs(is_dyadic((n, k)), True, (n, k))
        self.assertIs(is_dyadic((0, 0)), True)

    def test_beyond_the_limits(self):
        for pair in ((10 ** 40 + 1, 0), (-10 ** 40 - 1, 0), (1, 401), (1, -401), (-1, 401), (10 ** 5000 + 1, 0)):
            self.assertIs(is_dyadic(pair), False)

    def test_even_factors(self):
        for pair in ((2, 0), (-2, 0), (2, -1), (10 ** 40, 0), (-10 ** 40, 0), (0, 1), (0, -1), (0, 400)):
            self.assertIs(is_dyadic(pair), False, pair)

    def test_other_values(self):
        for part in STRANGE:
            self.assertIs(is_dyadic((part, 0)), False, part)
            self.assertIs(is_dyadic((1, part)), False, part)
            self.assertIs(is_dyadic((0, part)), False, part)
        for other in STRANGE + (0, 1, (), (1,), (1, 0, 0), [1, 0], "10", (False, False), (True, 0), ((1, 0), 0)):
            self.assertIs(is_dyadic(other), False, other)


class Numbers(unittest.TestCase):
    def each(self):
        for limits in SMALL:
            for tiny in TINY_WAYS:
                form = limits + ("even", tiny, "infinite")
                yield form, numbers_of(form)

    def test_is_number(self):
        for form, numbers in self.each():
            p, low, high = form[:3]
            members = set(numbers)
            self.assertIs(is_number(form, (0, 0)), True)
            for n in range(1, 2 ** (p + 1) + 2, 2):
                for k in range(low - p - 2, high + p + 3):
                    expected = n * Fraction(2) ** k in members
                    self.assertIs(is_number(form, (n, k)), expected, (form, n, k))
                    self.assertIs(is_number(form, (-n, k)), expected, (form, -n, k))

    def test_is_number_of_far_dyadics(self):
        for form, _ in self.each():
            for far in ((1, 400), (1, -400), (10 ** 40 - 1, 400), (1 - 10 ** 40, -400), (10 ** 40 - 1, form[1])):
                self.assertIs(is_number(form, far), False)

    def test_largest_and_smallest(self):
        for form, numbers in self.each():
            p, low = form[:2]
            self.assertEqual(largest(form), dyadic(numbers[-1]), form)
            self.assertEqual(smallest(form), dyadic(min(x for x in numbers if x > 0)), form)
            self.assertEqual(smallest_normal(form), dyadic(2 ** (p - 1) * Fraction(2) ** low), form)

    def test_smallest_is_normal_only_if_flushed(self):
        self.assertEqual(smallest((5, 3, 9, "up", "gradual", "largest")), (1, 3))
        self.assertEqual(smallest((5, 3, 9, "up", "flush", "largest")), (1, 7))
        self.assertEqual(smallest_normal((5, 3, 9, "up", "gradual", "largest")), (1, 7))
        self.assertEqual(largest((5, 3, 9, "up", "flush", "largest")), (31, 9))

    def test_count_numbers(self):
        for form, numbers in self.each():
            self.assertEqual(count_numbers(form), len(numbers), form)
        self.assertEqual(count_numbers((10, -40, -20, "up", "gradual", "largest")), 2 * (21 * 512 + 511) + 1)
        self.assertEqual(count_numbers((10, 20, 40, "up", "flush", "largest")), 2 * 21 * 512 + 1)

    def test_next_up(self):
        for form, numbers in self.each():
            listed = [dyadic(x) for x in numbers]
            for number, following in zip(listed, listed[1:] + [None]):
                self.assertEqual(next_up(form, number), following, (form, number))

    def test_next_up_in_a_wide_format(self):
        for tiny in TINY_WAYS:
            form = (4, -40, -20, "zero", tiny, "largest")
            numbers = numbers_of(form)
            number = dyadic(numbers[0])
            for x in numbers:
                self.assertEqual(value(number), x)
                number = next_up(form, number)
            self.assertIsNone(number)

    def test_the_mode_and_huge_results_do_not_matter(self):
        for tiny in TINY_WAYS:
            seen = set()
            for form in formats(4, -2, 1):
                if form[4] == tiny:
                    chain = tuple(next_up(form, dyadic(x)) for x in numbers_of(form))
                    seen.add((largest(form), smallest(form), smallest_normal(form), count_numbers(form), chain))
            self.assertEqual(len(seen), 1)

    def test_errors(self):
        for function in (largest, smallest_normal, smallest, count_numbers):
            for other in STRANGE + ((11,) + EXAMPLE[1:],):
                with self.assertRaises(BadFormat):
                    function(other)
        for other in STRANGE + (0, 1, (1,), (2, 0), (0, 1), (1, 401), (10 ** 40 + 1, 0), (True, 0), (1, False)):
            with self.assertRaises(BadDyadic):
                is_number(EXAMPLE, other)
            with self.assertRaises(BadNumber):
                next_up(EXAMPLE, other)
        for other in ((17, 0), (-17, 0), (1, -7), (1, 8), (15, 5), (1, 400), (1, -400)):
            self.assertIs(is_number(EXAMPLE, other), False)
            with self.assertRaises(BadNumber):
                next_up(EXAMPLE, other)
        with self.assertRaises(BadNumber):
            next_up((4, -6, 4, "even", "flush", "infinite"), (1, -6))


if __name__ == "__main__":
    unittest.main()
