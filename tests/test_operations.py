"""Points 5 and 6: rounding and the rounded operations."""

import unittest
from fractions import Fraction

from rulesheld.errors import BadFormat, BadFraction, BadNumber, NotMade
from rulesheld.formats import is_number
from rulesheld.operations import add, divide, multiply, round_to, square_root, subtract

from tests.helpers import (
    EXAMPLE, STRANGE, dyadic, formats, numbers_of, reference, reference_root, unbounded, value, ways,
)

SMALL = [(4, 0, 0), (4, -2, 1), (5, -3, 0), (4, 3, 5), (4, -40, -39), (4, 39, 40)]

# parts of the way from one neighbour to the next
PARTS = [Fraction(0), Fraction(1, 1000), Fraction(1, 4), Fraction(499, 1000), Fraction(1, 2), Fraction(501, 1000),
         Fraction(3, 4), Fraction(999, 1000)]


class RoundTo(unittest.TestCase):
    def rounds(self, limits, cases):
        """Cases: a fraction and what it rounds to in each way that is told."""
        for (a, b), way, expected in cases:
            got = round_to(limits + way, a, b)
            self.assertEqual(got, dyadic(expected), (limits, a, b, way))

    def test_against_the_reference(self):
        for limits in SMALL:
            for form in formats(*limits):
                p, low, high, _, tiny, _ = form
                grid = [x for x, _ in unbounded(p, low, tiny, high + 2)]
                for near, far in zip(grid, grid[1:]):
                    for part in PARTS:
                        for sign in (1, -1):
                            fraction = sign * (near + (far - near) * part)
                            got = round_to(form, fraction.numerator, fraction.denominator)
                            self.assertEqual(got, dyadic(reference(form, fraction)), (form, fraction))

    def test_numbers_round_to_themselves(self):
        for form in formats(4, -3, 2):
            for x in numbers_of(form):
                self.assertEqual(value(round_to(form, x.numerator, x.denominator)), x)

    def test_a_fraction_need_not_be_in_lowest_terms(self):
        for form in formats(4, -2, 1):
            self.assertEqual(round_to(form, 35 * 6, 4 * 6), round_to(form, 35, 4))
            self.assertEqual(round_to(form, 0, 10 ** 60), (0, 0))

    def test_between_two_neighbours(self):
        # 17 lies between 16 and 18
        for way in ways():
            mode = way[0]
            up = mode in ("up", "away")
            self.rounds((4, 0, 2), [((17, 1), way, 18 if up else 16)])
            down = mode in ("down", "away")
            self.rounds((4, 0, 2), [((-17, 1), way, -18 if down else -16)])
            # 19 lies between 18 (m = 9) and 20 (m = 10)
            self.rounds((4, 0, 2), [((19, 1), way, 20 if mode in ("up", "away", "even") else 18)])
            self.rounds((4, 0, 2), [((-19, 1), way, -20 if mode in ("down", "away", "even") else -18)])
            # 31 lies between 30 (m = 15) and 32 (m = 16, with the exponent of 30)
            self.rounds((4, 0, 2), [((31, 1), way, 32 if mode in ("up", "away", "even") else 30)])
            # 33 is nearer to 32, though the neighbours above and below 32 are not equally far
            self.rounds((4, 0, 2), [((33, 1), way, 36 if mode == "up" else 32)])
            self.rounds((4, 0, 2), [((35, 1), way, 32 if mode in ("down", "zero") else 36)])

    def test_tiny_results_gradually(self):
        for mode, _, huge in ways():
            way = (mode, "gradual", huge)
            self.rounds((4, 0, 2), [
                ((1, 2), way, 1 if mode in ("up", "away") else 0),
                ((-1, 2), way, -1 if mode in ("down", "away") else 0),
                ((3, 2), way, 1 if mode in ("down", "zero") else 2),
                ((5, 2), way, 3 if mode in ("up", "away") else 2),
                ((15, 2), way, 7 if mode in ("down", "zero") else 8),
                ((-15, 2), way, -7 if mode in ("up", "zero") else -8),
                ((7, 1), way, 7),
                ((1, 10 ** 60), way, 1 if mode == "up" else 0),
                ((-1, 10 ** 60), way, -1 if mode == "down" else 0),
            ])

    def test_tiny_results_flushed(self):
        for mode, _, huge in ways():
            way = (mode, "flush", huge)
            self.rounds((4, 0, 2), [
                ((4, 1), way, 8 if mode in ("up", "away") else 0),
                ((-4, 1), way, -8 if mode in ("down", "away") else 0),
                ((41, 10), way, 0 if mode in ("down", "zero") else 8),
                ((39, 10), way, 8 if mode == "up" else 0),
                ((-41, 10), way, 0 if mode in ("up", "zero") else -8),
                ((7, 1), way, 0 if mode in ("down", "zero") else 8),
                ((1, 1), way, 8 if mode == "up" else 0),
                ((8, 1), way, 8),
                ((1, 10 ** 60), way, 8 if mode == "up" else 0),
                ((-1, 10 ** 60), way, -8 if mode == "down" else 0),
            ])

    def test_huge_results(self):
        # the largest number is 60; unbounded, 64 would follow
        for mode, tiny, huge in ways():
            way = (mode, tiny, huge)
            above = 60 if huge == "largest" or mode in ("down", "zero") else "inf"
            below = -60 if huge == "largest" or mode in ("up", "zero") else "-inf"
            self.rounds((4, 0, 2), [
                ((60, 1), way, 60),
                ((61, 1), way, above if mode == "up" else 60),
                ((-61, 1), way, below if mode == "down" else -60),
                ((62, 1), way, above if mode in ("up", "away", "even") else 60),
                ((-62, 1), way, below if mode in ("down", "away", "even") else -60),
                ((63, 1), way, above),
                ((-63, 1), way, below),
                ((64, 1), way, above),
                ((-64, 1), way, below),
                ((10 ** 60, 1), way, above),
                ((-10 ** 60, 1), way, below),
            ])

    def test_limits_of_the_fraction(self):
        for a, b in ((10 ** 60, 1), (-10 ** 60, 1), (0, 1), (10 ** 60, 10 ** 60), (1, 10 ** 60), (-1, 10 ** 60)):
            got = round_to(EXAMPLE, a, b)
            self.assertEqual(got, dyadic(reference(EXAMPLE, Fraction(a, b))))
        for a, b in ((10 ** 60 + 1, 1), (-10 ** 60 - 1, 1), (1, 0), (1, -1), (0, 0), (1, 10 ** 60 + 1), (True, 1),
                     (1, True), (False, 1), ("1", 1), (1, "1"), (None, 1), (1, None), ((1, 0), 1), ([1], [1])):
            with self.assertRaises(BadFraction):
                round_to(EXAMPLE, a, b)

    def test_wide_formats(self):
        for form in formats(10, -40, -20) + formats(10, 20, 40):
            for fraction in (Fraction(1, 3), Fraction(-2, 7), Fraction(10 ** 30, 7), Fraction(-1, 10 ** 30),
                             Fraction(2 ** 40 * 1001 + 1), Fraction(1023, 2 ** 20), Fraction(2047, 2 ** 21)):
                got = round_to(form, fraction.numerator, fraction.denominator)
                self.assertEqual(got, dyadic(reference(form, fraction)), (form, fraction))


class Operations(unittest.TestCase):
    exact = {
        add: lambda x, y: x + y,
        subtract: lambda x, y: x - y,
        multiply: lambda x, y: x * y,
        divide: lambda x, y: x / y,
    }

    def test_against_the_reference(self):
        for limits in ((4, -3, -2), (4, 2, 2)):
            for form in formats(*limits):
                numbers = [(dyadic(x), x) for x in numbers_of(form)]
                for first, x in numbers:
                    for second, y in numbers:
                        self.check(form, first, x, second, y)

    def check(self, form, first, x, second, y):
        for operation, exact in self.exact.items():
            if operation == divide and y == 0:
                with self.assertRaises(NotMade):
                    divide(form, first, second)
            else:
                got = operation(form, first, second)
                self.assertEqual(got, dyadic(reference(form, exact(x, y))), (operation, form, first, second))

    def test_far_exponents(self):
        for limits in ((4, -40, -20), (4, 20, 40), (10, -10, 10)):
            for form in formats(*limits):
                numbers = [x for x in numbers_of(form) if x][::max(1, len(numbers_of(form)) // 12)]
                for x in numbers:
                    for y in numbers:
                        self.check(form, dyadic(x), x, dyadic(y), y)

    def test_infinite_results(self):
        form = (4, -6, 4, "away", "flush", "infinite")
        m, s, zero = (15, 4), (1, -3), (0, 0)
        self.assertEqual(
            [add(form, m, m), subtract(form, (-15, 4), m), multiply(form, m, (-15, 4)), divide(form, m, s)],
            ["inf", "-inf", "-inf", "inf"])
        self.assertEqual(
            [multiply(form, s, s), divide(form, s, (-15, 4)), add(form, zero, zero), divide(form, zero, m)],
            [zero, zero, zero, zero])

    def test_errors(self):
        one = (1, 0)
        for other in STRANGE + (0, 1, (2, 0), (17, 0), (1, -7), (15, 5), "inf", (1, False), (True, 0)):
            for operation in self.exact:
                with self.assertRaises(BadNumber):
                    operation(EXAMPLE, other, one)
                with self.assertRaises(BadNumber):
                    operation(EXAMPLE, one, other)
            with self.assertRaises(BadNumber):
                square_root(EXAMPLE, other)
        for form in STRANGE + (EXAMPLE[:5],):
            for operation in self.exact:
                with self.assertRaises(BadFormat):
                    operation(form, one, one)
            with self.assertRaises(BadFormat):
                square_root(form, one)
            with self.assertRaises(BadFormat):
                round_to(form, 1, 1)


class Roots(unittest.TestCase):
    def test_against_the_reference(self):
        for limits in ((4, -3, 2), (4, 0, 0), (4, 2, 5), (5, 5, 7), (4, -40, -20), (4, 20, 40), (7, -7, -6)):
            for form in formats(*limits):
                for x in numbers_of(form):
                    if x >= 0:
                        got = square_root(form, dyadic(x))
                        self.assertEqual(got, dyadic(reference_root(form, x)), (form, x))

    def test_exact_roots(self):
        for form in formats(4, -6, 4):
            for x in ((1, 0), (9, 0), (1, 2), (1, 4), (9, 2), (1, -2), (0, 0)):
                root = square_root(form, x)
                self.assertEqual(value(root) ** 2, value(x), (form, x))
                self.assertTrue(is_number(form, root))

    def test_inexact_roots(self):
        # the root of 2 lies between 11/8 and 12/8, that of 3 between 13/8 and 14/8
        for form in formats(4, -6, 4):
            up = form[3] == "up"
            self.assertEqual(square_root(form, (1, 1)), (3, -1) if up else (11, -3))
            nearest = form[3] in ("even", "away")
            self.assertEqual(square_root(form, (3, 0)), (7, -2) if up or nearest else (13, -3))

    def test_a_root_halfway_between_zero_and_the_smallest_number(self):
        # the root of 4 is half of 4, the smallest number if tiny is gradual
        for mode, _, huge in ways():
            form = (4, 2, 5, mode, "gradual", huge)
            self.assertEqual(square_root(form, (1, 2)), (1, 2) if mode in ("up", "away") else (0, 0))
        # the root of 256 is half of 32, the smallest number if tiny is flush
        for mode, _, huge in ways():
            form = (4, 2, 5, mode, "flush", huge)
            self.assertEqual(square_root(form, (1, 8)), (1, 5) if mode in ("up", "away") else (0, 0))

    def test_roots_beyond_the_largest_number(self):
        for form in formats(4, -40, -20):
            bounded = form[5] == "largest" or form[3] in ("down", "zero")
            self.assertEqual(square_root(form, (1, -18)), (15, -20) if bounded else "inf")

    def test_roots_of_negative_numbers(self):
        for form in formats(4, -6, 4):
            for x in ((-1, 0), (-15, 4), (-1, -3)):
                with self.assertRaises(NotMade):
                    square_root(form, x)


if __name__ == "__main__":
    unittest.main()
