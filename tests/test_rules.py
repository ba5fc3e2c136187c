"""Points 7 and 8: the fourteen rules."""

import unittest
from functools import lru_cache
from itertools import product

from rulesheld.errors import BadFormat, BadNumbers, BadRule
from rulesheld.rules import arity, holds_for, rules

from tests.helpers import EXAMPLE, STRANGE, dyadic, dyadics, formats, numbers_of, reference, value, ways

NAMES = (
    "sum sign", "zero difference", "close difference", "error term", "fast error", "symmetry", "midpoint", "average",
    "add back", "grouping", "absorption", "third", "halves", "squares",
)
ARITIES = (2, 2, 2, 2, 2, 2, 2, 2, 2, 3, 2, 1, 1, 1)


class Stopped(Exception):
    """An operand, or a side of a comparison, is no number."""


rounded = lru_cache(maxsize=None)(reference)


def number(result):
    if result in ("inf", "-inf"):
        raise Stopped
    return result


def opposite(result):
    return {"inf": "-inf", "-inf": "inf"}[result] if isinstance(result, str) else -result


def is_positive(result):
    return result == "inf" or (result != "-inf" and result > 0)


def holds(form, rule, numbers):
    """The rule of that name in the words of point 7, over fractions."""
    all_numbers = numbers_of(form)
    last = all_numbers[-1]
    x, y, z = (numbers + (None, None))[:3]

    def plus(a, b):
        return rounded(form, number(a) + number(b))

    def minus(a, b):
        return rounded(form, number(a) - number(b))

    def parted(a, many):
        return rounded(form, number(a) / many)

    def is_member(a):
        return a in members(form)

    def error_term():
        total = number(plus(x, y))
        return is_member(x + y - total)

    def fast_error():
        s = plus(x, y)
        t = minus(s, x)
        e = minus(y, t)
        return number(s) + number(e) == x + y

    def premise_and_conclusion():
        return {
            "sum sign": lambda: (x < y, lambda: is_positive(minus(y, x))),
            "zero difference": lambda: (minus(x, y) == 0, lambda: x == y),
            "close difference": lambda: (x > 0 and y > 0 and x <= 2 * y and y <= 2 * x,
                                         lambda: number(minus(x, y)) == x - y),
            "error term": lambda: (True, error_term),
            "fast error": lambda: (abs(x) >= abs(y), fast_error),
            "symmetry": lambda: (True, lambda: opposite(plus(x, y)) == plus(-x, -y)),
            "midpoint": lambda: (0 <= x <= y, lambda: x <= number(plus(x, parted(minus(y, x), 2))) <= y),
            "average": lambda: (0 <= x <= y and x + y <= last, lambda: x <= number(parted(plus(x, y), 2)) <= y),
            "add back": lambda: (0 <= y <= x, lambda: number(plus(minus(x, y), y)) == x),
            "grouping": lambda: (x >= 0 and y >= 0 and z >= 0 and x + y + z <= last,
                                 lambda: number(plus(plus(x, y), z)) == number(plus(x, plus(y, z)))),
            "absorption": lambda: (plus(x, y) == x, lambda: y == 0),
            "third": lambda: (x >= 0 and 3 * x <= last, lambda: number(parted(rounded(form, 3 * x), 3)) == x),
            "halves": lambda: (True, lambda: number(plus(parted(x, 2), parted(x, 2))) == x),
            "squares": lambda: (rounded(form, x * x) == 0, lambda: x == 0),
        }[rule]()

    try:
        premise, conclusion = premise_and_conclusion()
        return not premise or conclusion()
    except Stopped:
        return False


@lru_cache(maxsize=None)
def members(form):
    return set(numbers_of(form))


class Names(unittest.TestCase):
    def test_rules(self):
        self.assertEqual(rules(), NAMES)
        self.assertIsInstance(rules(), tuple)

    def test_arity(self):
        self.assertEqual(tuple(arity(rule) for rule in NAMES), ARITIES)

    def test_bad_rules(self):
        for rule in STRANGE + ("Halves", "halves ", "sumsign", "sum_sign", ("halves",), NAMES, 0, 1, 13):
            with self.assertRaises(BadRule):
                arity(rule)
            with self.assertRaises(BadRule):
                holds_for(EXAMPLE, rule, ((1, 0),))


class Against(unittest.TestCase):
    """All numbers of small formats, in all ways, against the reference."""

    def check(self, limits, names, least=None):
        for form in formats(*limits):
            listed = [x for x in numbers_of(form) if least is None or x >= least]
            named = {x: dyadic(x) for x in listed}
            for rule in names:
                for numbers in product(listed, repeat=ARITIES[NAMES.index(rule)]):
                    got = holds_for(form, rule, tuple(named[x] for x in numbers))
                    self.assertIs(got, holds(form, rule, numbers), (form, rule, numbers))

    def test_one_number(self):
        names = [rule for rule in NAMES if arity(rule) == 1]
        for limits in ((4, 0, 0), (4, -1, 0), (4, -5, 3), (4, -4, -4), (5, -6, 2), (4, 38, 40), (4, -40, -38)):
            self.check(limits, names)

    def test_two_numbers(self):
        names = [rule for rule in NAMES if arity(rule) == 2]
        for limits in ((4, 0, 0), (4, -1, 1)):
            self.check(limits, names)

    def test_three_numbers(self):
        for limits in ((4, 0, 0), (4, 2, 3)):
            self.check(limits, ("grouping",), 0)
        self.assertIs(holds_for(EXAMPLE, "grouping", dyadics(-1, 1, 1)), True)


class Cases(unittest.TestCase):
    """Numbers for each rule with p = 4, low = 0 and a span, told as integers.

    N is 8 and the largest number is 15 times 2**span. The numbers from 1 to 7 are numbers only if tiny is "gradual".
    """

    def expect(self, rule, span, way, numbers, expected):
        form = (4, 0, span) + tuple(way.split())
        self.assertIs(holds_for(form, rule, dyadics(*numbers)), expected, (form, rule, numbers))

    def test_sum_sign(self):
        for way in ("even gradual infinite", "up flush infinite", "up flush largest", "zero gradual largest"):
            self.expect("sum sign", 0, way, (8, 9), True)
        for way in ("even flush infinite", "away flush largest", "down flush infinite", "zero flush largest"):
            self.expect("sum sign", 0, way, (8, 9), False)
            self.expect("sum sign", 0, way, (9, 8), True)
            self.expect("sum sign", 0, way, (9, 9), True)
            self.expect("sum sign", 0, way, (-9, -8), False)
        self.expect("sum sign", 0, "away flush infinite", (8, 12), True)
        self.expect("sum sign", 0, "even flush infinite", (8, 12), False)
        # the difference is "inf", which is greater than 0
        self.expect("sum sign", 0, "even flush infinite", (-15, 15), True)

    def test_zero_difference(self):
        self.expect("zero difference", 0, "even flush infinite", (9, 8), False)
        self.expect("zero difference", 0, "even gradual infinite", (9, 8), True)
        self.expect("zero difference", 0, "up flush infinite", (9, 8), True)
        self.expect("zero difference", 0, "up flush infinite", (8, 9), False)
        self.expect("zero difference", 0, "down flush infinite", (8, 9), True)
        self.expect("zero difference", 0, "zero flush infinite", (9, 9), True)
        # a difference that is "inf" or "-inf" is not 0
        self.expect("zero difference", 0, "even flush infinite", (15, -15), True)
        self.expect("zero difference", 0, "even flush infinite", (-15, 15), True)

    def test_close_difference(self):
        self.expect("close difference", 1, "even flush infinite", (9, 8), False)
        self.expect("close difference", 1, "even gradual infinite", (9, 8), True)
        self.expect("close difference", 1, "even flush infinite", (16, 8), True)
        self.expect("close difference", 1, "even flush infinite", (8, 16), True)
        self.expect("close difference", 2, "up flush infinite", (9, 15), False)
        # one is more than twice the other, so that the premise is false: 60 - 9 is inexact
        self.expect("close difference", 2, "even flush infinite", (60, 9), True)
        self.expect("close difference", 2, "even flush infinite", (9, 60), True)
        # not positive
        self.expect("close difference", 1, "even flush infinite", (-9, -8), True)
        self.expect("close difference", 1, "even flush infinite", (0, 0), True)
        self.expect("close difference", 0, "even flush infinite", (15, -15), True)

    def test_error_term(self):
        self.expect("error term", 0, "even gradual largest", (15, 15), True)
        self.expect("error term", 0, "even gradual infinite", (15, 15), False)
        self.expect("error term", 0, "zero gradual infinite", (15, 15), True)
        self.expect("error term", 0, "down gradual infinite", (15, 15), True)
        self.expect("error term", 0, "down gradual infinite", (-15, -15), False)
        self.expect("error term", 0, "even flush largest", (9, -8), False)
        self.expect("error term", 0, "even flush largest", (9, -9), True)
        self.expect("error term", 0, "away flush largest", (14, 14), True)
        self.expect("error term", 0, "away flush largest", (10, 10), False)
        # 128 + 1 becomes 144, 256 + 1 becomes 288, and 31 has too many digits
        self.expect("error term", 5, "up gradual largest", (128, 1), True)
        self.expect("error term", 5, "up gradual largest", (256, 1), False)
        self.expect("error term", 5, "even gradual largest", (256, 1), True)

    def test_fast_error(self):
        self.expect("fast error", 1, "even gradual infinite", (16, 1), True)
        self.expect("fast error", 0, "even gradual infinite", (15, 15), False)
        self.expect("fast error", 0, "even gradual largest", (15, 15), True)
        self.expect("fast error", 0, "even flush largest", (9, -8), False)
        self.expect("fast error", 5, "up gradual largest", (256, 1), False)
        self.expect("fast error", 5, "zero gradual largest", (288, -1), False)
        # |x| < |y|
        self.expect("fast error", 0, "even flush largest", (8, -9), True)
        self.expect("fast error", 0, "even gradual infinite", (14, 15), True)
        # x + y is "-inf", an operand
        self.expect("fast error", 0, "down gradual infinite", (-15, -15), False)

    def test_symmetry(self):
        for way in ("even gradual infinite", "away flush largest", "zero flush infinite"):
            self.expect("symmetry", 1, way, (16, 1 if "gradual" in way else 9), True)
        self.expect("symmetry", 1, "up gradual largest", (16, 1), False)
        self.expect("symmetry", 1, "down gradual infinite", (16, 1), False)
        self.expect("symmetry", 0, "up flush infinite", (9, -8), False)
        # "inf" is the negative of "-inf" ..
        self.expect("symmetry", 0, "even gradual infinite", (15, 15), True)
        self.expect("symmetry", 0, "away gradual infinite", (-15, -15), True)
        # .. but not of the least number
        self.expect("symmetry", 0, "down gradual infinite", (15, 15), False)
        self.expect("symmetry", 0, "up gradual infinite", (15, 15), False)
        self.expect("symmetry", 0, "up gradual largest", (15, 15), True)

    def test_midpoint(self):
        self.expect("midpoint", 0, "away flush infinite", (8, 12), False)
        self.expect("midpoint", 0, "up flush largest", (8, 12), False)
        self.expect("midpoint", 0, "even flush infinite", (8, 12), True)
        self.expect("midpoint", 0, "away gradual infinite", (8, 12), True)
        self.expect("midpoint", 0, "away flush infinite", (8, 8), True)
        # x > y, or x < 0
        self.expect("midpoint", 0, "up flush infinite", (12, 8), True)
        self.expect("midpoint", 0, "up flush infinite", (-12, -8), True)
        # x plus the half is "inf"
        self.expect("midpoint", 0, "up flush infinite", (14, 15), False)

    def test_average(self):
        self.expect("average", 1, "up flush infinite", (8, 9), True)
        self.expect("average", 1, "down gradual infinite", (3, 3), True)
        # the exact sum is M
        self.expect("average", 1, "even gradual infinite", (14, 16), True)
        # it is more than M: 15 + 16 becomes "inf", and 28 + 30 becomes 30, whose half is less than 28
        self.expect("average", 1, "even gradual infinite", (15, 16), True)
        self.expect("average", 1, "down gradual largest", (28, 30), True)
        # x > y, or x < 0
        self.expect("average", 1, "down gradual infinite", (9, 8), True)
        self.expect("average", 1, "up flush infinite", (-9, -8), True)

    def test_add_back(self):
        self.expect("add back", 1, "even flush infinite", (9, 8), False)
        self.expect("add back", 1, "even gradual infinite", (9, 8), True)
        self.expect("add back", 1, "even gradual infinite", (18, 1), False)
        self.expect("add back", 0, "down gradual largest", (15, 1), True)
        # y > x, or y < 0
        self.expect("add back", 1, "even flush infinite", (8, 9), True)
        self.expect("add back", 1, "even gradual infinite", (18, -1), True)
        self.expect("add back", 0, "even gradual infinite", (15, -15), True)
        # 15 - 14 becomes 8, and 8 + 14 becomes "inf"
        self.expect("add back", 0, "up flush infinite", (15, 14), False)

    def test_grouping(self):
        self.expect("grouping", 2, "even gradual infinite", (9, 9, 8), False)
        self.expect("grouping", 0, "even gradual infinite", (1, 2, 3), True)
        self.expect("grouping", 2, "even gradual infinite", (8, 8, 8), True)
        # not all at least 0
        self.expect("grouping", 2, "even gradual infinite", (-1, 30, 30), True)
        self.expect("grouping", 1, "up gradual infinite", (16, 1, -1), True)
        # the exact sum is M: 28 + 1 becomes 28, but 28 + 2 is a number
        self.expect("grouping", 1, "up gradual infinite", (0, 15, 15), True)
        self.expect("grouping", 1, "down gradual infinite", (28, 1, 1), False)
        # it is more than M: 30 + 1 becomes "inf"
        self.expect("grouping", 1, "even gradual infinite", (30, 1, 1), True)
        # both results are "inf", which may not be compared
        self.expect("grouping", 1, "up gradual infinite", (1, 28, 1), False)
        self.expect("grouping", 1, "up gradual largest", (1, 28, 1), True)

    def test_absorption(self):
        self.expect("absorption", 0, "even gradual infinite", (8, 1), True)
        self.expect("absorption", 1, "even gradual infinite", (16, 1), False)
        self.expect("absorption", 1, "away gradual infinite", (18, -1), False)
        self.expect("absorption", 1, "even gradual infinite", (16, 0), True)
        self.expect("absorption", 0, "down gradual infinite", (15, 1), False)
        self.expect("absorption", 0, "up gradual infinite", (-15, -1), False)
        self.expect("absorption", 0, "even gradual largest", (15, 15), False)
        # the sum is "inf" or "-inf" and so not x
        self.expect("absorption", 0, "even gradual infinite", (15, 15), True)
        self.expect("absorption", 0, "even gradual infinite", (-15, -15), True)

    def test_third(self):
        self.expect("third", 2, "even gradual infinite", (14,), False)
        self.expect("third", 2, "even gradual infinite", (8,), True)
        self.expect("third", 2, "down gradual infinite", (9,), False)
        # 3 x is M = 15, is more than M, or x is negative
        self.expect("third", 0, "down gradual infinite", (5,), True)
        self.expect("third", 0, "even gradual infinite", (6,), True)
        self.expect("third", 2, "even gradual largest", (22,), True)
        self.expect("third", 2, "even gradual infinite", (-14,), True)
        self.expect("third", 2, "even gradual infinite", (0,), True)

    def test_halves(self):
        self.expect("halves", 1, "even gradual infinite", (1,), False)
        self.expect("halves", 1, "even gradual infinite", (2,), True)
        self.expect("halves", 1, "even gradual infinite", (0,), True)
        self.expect("halves", 1, "even flush infinite", (8,), False)
        self.expect("halves", 1, "up flush infinite", (-8,), False)
        self.expect("halves", 1, "up flush infinite", (18,), True)
        # 15 / 2 becomes 8, and 8 + 8 becomes "inf"
        self.expect("halves", 0, "even gradual infinite", (15,), False)
        self.expect("halves", 0, "up gradual largest", (15,), True)

    def test_squares(self):
        for way, expected in (("even", False), ("away", True), ("down", False), ("up", True), ("zero", False)):
            # the square of 1/2 is half the smallest number, 1/2
            form = (4, -1, 3, way, "gradual", "infinite")
            self.assertIs(holds_for(form, "squares", ((1, -1),)), expected)
            self.assertIs(holds_for(form, "squares", ((-1, -1),)), expected)
            self.assertIs(holds_for(form, "squares", ((0, 0),)), True)
            self.assertIs(holds_for(form, "squares", ((1, 0),)), True)
            # the square of 1/4 is less than half of it
            form = (4, -2, 3, way, "gradual", "infinite")
            self.assertIs(holds_for(form, "squares", ((1, -2),)), way == "up")
        # a square that is "inf" is not 0
        self.expect("squares", 0, "even gradual infinite", (15,), True)
        self.expect("squares", 0, "even gradual infinite", (-15,), True)


class Errors(unittest.TestCase):
    def test_bad_numbers(self):
        one, zero = (1, 0), (0, 0)
        for rule, many in zip(NAMES, ARITIES):
            right = (one,) * many
            self.assertIn(holds_for(EXAMPLE, rule, right), (True, False))
            wrong = [right[1:], right + (one,), list(right), (), one, zero, (right,), 0, 1]
            wrong += [right[1:] + (x,) for x in STRANGE + (1, (2, 0), (17, 0), (1, -7), (15, 5), (0, 1), [1, 0])]
            wrong += [(x,) + right[1:] for x in STRANGE + ((17, 0), (True, 0), (1, False), "inf")]
            for numbers in wrong + list(STRANGE):
                with self.assertRaises(BadNumbers):
                    holds_for(EXAMPLE, rule, numbers)

    def test_numbers_of_another_format(self):
        with self.assertRaises(BadNumbers):
            holds_for((4, 0, 2, "even", "flush", "infinite"), "halves", ((7, 0),))
        self.assertIs(holds_for((4, 0, 2, "even", "gradual", "infinite"), "halves", ((7, 0),)), False)

    def test_bad_formats(self):
        for form in STRANGE + (EXAMPLE[:5], (3,) + EXAMPLE[1:]):
            with self.assertRaises(BadFormat):
                holds_for(form, "halves", ((1, 0),))


if __name__ == "__main__":
    unittest.main()
