"""Points 9 and 10: which rules hold for all numbers of a format, and numbers that break the others."""

import unittest
from itertools import product

from rulesheld.decisions import counterexample, holds
from rulesheld.errors import BadFormat, BadRule
from rulesheld.formats import is_number, largest, next_up, smallest, smallest_normal
from rulesheld.rules import arity, holds_for, rules

from tests.helpers import EXAMPLE, STRANGE, dyadic, dyadics, formats, numbers_of, value, ways

# The greatest span in which a rule holds, for each way in the order of helpers.ways (modes in groups; in each group
# gradual infinite, gradual largest, flush infinite, flush largest): "-" if there is none, "*" if all are allowed,
# otherwise the greatest one. "squares" depends on the exponents instead.
LIMITS = {
    #                    even away down up   zero
    "sum sign":         "**-- **-- **-- **** **--",
    "zero difference":  "**-- **-- **-- **-- **--",
    "close difference": "**-- **-- **-- **-- **--",
    "error term":       "-*-- -*-- -p-- -p-- pp--",
    "fast error":       "-*-- -*-- -p-- -p-- pp--",
    "symmetry":         "**** **** -0-- -0-- ****",
    "midpoint":         "**** **-- **** **-- ****",
    "average":          "**** **** **** **** ****",
    "add back":         "00-- 00-- 00-- 00-- 00--",
    "grouping":         "0000 0000 0000 0000 0000",
    # q is p - 1
    "absorption":       "0-q- 0-q- ---- ---- ----",
    "third":            "1111 1111 0000 0000 0000",
    "halves":           "---- ---- ---- ---- ----",
}


def expected(form, rule):
    p, low, high = form[:3]
    if rule == "squares":
        power = low + (p - 1 if form[4] == "flush" else 0)
        return power >= {"up": -1000, "away": -1}.get(form[3], 0)
    sign = LIMITS[rule].replace(" ", "")[ways().index(form[3:])]
    return high - low <= {"-": -1, "*": 20, "p": p, "q": p - 1, "0": 0, "1": 1}[sign]


class Holds(unittest.TestCase):
    def test_each_span_of_each_precision(self):
        for p in range(4, 11):
            for span in range(21):
                for low in {-40, -7, 0, 40 - span}:
                    for form in formats(p, low, low + span):
                        for rule in rules():
                            self.assertIs(holds(form, rule), expected(form, rule), (form, rule))

    def test_squares_for_each_least_exponent(self):
        for p in range(4, 11):
            for low in range(-40, 41):
                for form in formats(p, low, min(40, low + 3)):
                    self.assertIs(holds(form, "squares"), expected(form, "squares"), form)

    def test_the_limits(self):
        # just below, at and above each limit of a span
        for p in range(4, 11):
            for rule in ("error term", "fast error"):
                for way in (("down", "gradual", "largest"), ("up", "gradual", "largest"),
                            ("zero", "gradual", "largest"), ("zero", "gradual", "infinite")):
                    got = [holds((p, 0, span) + way, rule) for span in (p - 1, p, p + 1, 20)]
                    self.assertEqual(got, [True, True, False, False])
                for way in (("even", "gradual", "largest"), ("away", "gradual", "largest")):
                    self.assertIs(holds((p, 0, 20) + way, rule), True)
            for mode in ("even", "away"):
                got = [holds((p, 0, span, mode, "flush", "infinite"), "absorption") for span in (p - 2, p - 1, p, 20)]
                self.assertEqual(got, [True, True, False, False])
                got = [holds((p, 0, span, mode, "gradual", "infinite"), "absorption") for span in (0, 1, p - 1)]
                self.assertEqual(got, [True, False, False])
                for tiny in ("gradual", "flush"):
                    got = [holds((p, 0, span, mode, tiny, "largest"), "third") for span in (0, 1, 2, 20)]
                    self.assertEqual(got, [True, True, False, False])
            for mode in ("down", "up", "zero"):
                got = [holds((p, 0, span, mode, "flush", "infinite"), "third") for span in (0, 1, 2)]
                self.assertEqual(got, [True, False, False])
        # just below, at and above each limit of an exponent
        for p in range(4, 11):
            for tiny, shift in (("gradual", 0), ("flush", p - 1)):
                for mode, limit in (("away", -1), ("even", 0), ("down", 0), ("zero", 0)):
                    lows = [limit - shift + k for k in (-1, 0, 1)]
                    got = [holds((p, low, low + 2, mode, tiny, "infinite"), "squares") for low in lows]
                    self.assertEqual(got, [False, True, True], (p, tiny, mode))
                self.assertIs(holds((p, -40, -40, "up", tiny, "largest"), "squares"), True)

    def test_errors(self):
        for function in (holds, counterexample):
            for form in STRANGE + ((3,) + EXAMPLE[1:], EXAMPLE[:5], EXAMPLE + (0,), (11,) + EXAMPLE[1:]):
                for rule in ("average", "halves", "no rule", None):
                    with self.assertRaises(BadFormat):
                        function(form, rule)
            for rule in STRANGE + ("Midpoint", "average ", " average", "", ("average",), rules(), 0, 1, EXAMPLE):
                with self.assertRaises(BadRule):
                    function(EXAMPLE, rule)


class AllNumbers(unittest.TestCase):
    """The decisions against the rules themselves, for all numbers of the smallest formats."""

    def check(self, form, names):
        listed = [dyadic(x) for x in numbers_of(form)]
        for rule in names:
            if holds(form, rule):
                for numbers in product(listed, repeat=arity(rule)):
                    self.assertIs(holds_for(form, rule, numbers), True, (form, rule, numbers))
            else:
                self.assertIs(holds_for(form, rule, counterexample(form, rule)), False, (form, rule))

    def test_one_number(self):
        names = [rule for rule in rules() if arity(rule) == 1]
        for p in (4, 5):
            for span in (0, 1, 2, 5):
                for low in (-9, -6, -5, -4, -3, -2, -1, 0, 3):
                    for form in formats(p, low, low + span):
                        self.check(form, names)

    def test_two_numbers(self):
        names = [rule for rule in rules() if arity(rule) == 2]
        for limits in ((4, -2, -2), (4, 0, 1), (4, 5, 7), (5, 1, 1)):
            for form in formats(*limits):
                self.check(form, names)

    def test_two_numbers_near_the_limits_of_the_span(self):
        for span in (3, 4, 5):
            for form in formats(4, -2, span - 2):
                self.check(form, ("error term", "fast error", "absorption"))

    def test_three_numbers(self):
        for way in ways():
            listed = [dyadic(x) for x in numbers_of((4, 1, 1) + way)]
            for numbers in product(listed, repeat=3):
                self.assertIs(holds_for((4, 1, 1) + way, "grouping", numbers), True)

    def test_numbers_at_the_edges_of_wide_formats(self):
        for p in range(4, 11):
            for span in (0, 1, 2, p - 1, p, p + 1):
                for form in formats(p, -2, span - 2):
                    listed = edges(form)
                    for rule in rules():
                        if arity(rule) < 3 and holds(form, rule):
                            for numbers in product(listed, repeat=arity(rule)):
                                self.assertIs(holds_for(form, rule, numbers), True, (form, rule, numbers))


def edges(form):
    """Numbers at both ends of a format, and negative ones."""
    last, least, normal = largest(form), smallest(form), smallest_normal(form)
    found = [(0, 0), least, normal, next_up(form, normal), last, dyadic(value(normal) * 2 ** (form[2] - form[1]))]
    return found + [(-n, k) for n, k in found[2:]]


class Counterexamples(unittest.TestCase):
    def test_numbers_of_the_format_that_break_the_rule(self):
        for p in range(4, 11):
            for span in {0, 1, 2, 3, p - 1, p, p + 1, 20}:
                for low in {-40, -p, -2, -1, 0, 40 - span}:
                    for form in formats(p, low, low + span):
                        self.check(form)

    def check(self, form):
        for rule in rules():
            numbers = counterexample(form, rule)
            if expected(form, rule):
                self.assertIsNone(numbers)
                continue
            self.assertIsInstance(numbers, tuple)
            self.assertEqual(len(numbers), arity(rule))
            for number in numbers:
                self.assertIs(is_number(form, number), True)
            self.assertIs(holds_for(form, rule, numbers), False, (form, rule, numbers))

    def test_none_where_a_rule_holds(self):
        for p in (4, 10):
            for form in formats(p, 40, 40) + formats(p, -40, -20):
                for rule in rules():
                    self.assertEqual(counterexample(form, rule) is None, holds(form, rule))
                self.assertIsNone(counterexample(form, "average"))
                self.assertIsNotNone(counterexample(form, "halves"))

    def test_exactly_the_numbers_that_are_told(self):
        for p, n in ((4, 8), (10, 512)):
            for rule, way, span, units in told(p, n):
                for low in {-40, -7, 40 - span}:
                    form = (p, low, low + span) + tuple(way.split())
                    unit = value((1, low))
                    self.assertEqual(counterexample(form, rule), dyadics(*[x * unit for x in units]), (form, rule))

    def test_squares(self):
        for p, n in ((4, 8), (10, 512)):
            for mode in ("even", "away", "down", "zero"):
                for huge in ("infinite", "largest"):
                    self.assertEqual(counterexample((p, -40, -20, mode, "gradual", huge), "squares"), ((1, -40),))
                    self.assertEqual(counterexample((p, -40, -20, mode, "flush", huge), "squares"),
                                     ((1, -40 + p - 1),))
                    self.assertEqual(counterexample((p, 1, 2, mode, "gradual", huge), "squares"), None)
        self.assertEqual(counterexample((4, -1, 3, "even", "gradual", "infinite"), "squares"), ((1, -1),))
        self.assertEqual(counterexample((4, -4, 3, "zero", "flush", "largest"), "squares"), ((1, -1),))


def told(p, n):
    """Cases of point 10 as they stand there: a rule, a way, a span and the numbers in units."""
    m = 2 * n - 1
    cases = [
        ("close difference", "up flush infinite", 5, (n + 1, n)),
        ("close difference", "even flush largest", 0, (n + 1, n)),
        ("zero difference", "up flush infinite", 5, (n, n + 1)),
        ("zero difference", "up flush largest", 0, (n, n + 1)),
        ("halves", "zero gradual infinite", 5, (1,)),
        ("halves", "zero flush infinite", 5, (n,)),
        ("symmetry", "down flush infinite", 5, (n + 1, -n)),
        ("symmetry", "up flush largest", 0, (n + 1, -n)),
        ("symmetry", "up gradual infinite", 1, (2 * n, 1)),
        ("symmetry", "down gradual largest", 20, (2 * n, 1)),
        ("symmetry", "down gradual infinite", 0, (m, m)),
        ("symmetry", "up gradual infinite", 0, (m, m)),
        ("midpoint", "away flush infinite", 3, (n, n + n // 2)),
        ("midpoint", "up flush largest", 0, (n, n + n // 2)),
        ("add back", "even flush infinite", 0, (n + 1, n)),
        ("add back", "up flush largest", 7, (n + 1, n)),
        ("add back", "even gradual infinite", 1, (2 * n + 2, 1)),
        ("add back", "zero gradual largest", 20, (2 * n + 2, 1)),
        ("grouping", "even gradual infinite", 1, (n + 1, n + 1, n)),
        ("grouping", "up flush largest", 20, (n + 1, n + 1, n)),
        ("absorption", "down gradual infinite", 0, (m, 1)),
        ("absorption", "down flush infinite", 3, (m * 2 ** 3, n)),
        ("absorption", "zero gradual largest", 3, (m * 2 ** 3, 1)),
        ("absorption", "zero flush largest", 0, (m, n)),
        ("absorption", "up gradual largest", 3, (-m * 2 ** 3, -1)),
        ("absorption", "up flush infinite", 0, (-m, -n)),
        ("absorption", "even gradual largest", 0, (m, m)),
        ("absorption", "away flush largest", 20, (m * 2 ** 20, m * 2 ** 20)),
        ("absorption", "even gradual infinite", 1, (2 * n, 1)),
        ("absorption", "away gradual infinite", 1, (2 * n + 2, -1)),
        ("absorption", "even gradual infinite", 20, (2 * n, 1)),
        ("absorption", "away gradual infinite", 20, (2 * n + 2, -1)),
        ("absorption", "even flush infinite", p, (n * 2 ** p, n)),
        ("absorption", "away flush infinite", p, ((n + 1) * 2 ** p, -n)),
        ("absorption", "even flush infinite", 20, (n * 2 ** p, n)),
        ("absorption", "away flush infinite", 20, ((n + 1) * 2 ** p, -n)),
        ("third", "even gradual infinite", 2, (2 * n - 2,)),
        ("third", "away flush largest", 20, (2 * n - 2,)),
        ("third", "down gradual infinite", 1, (n + 1,)),
        ("third", "up flush largest", 1, (n + 1,)),
        ("third", "zero flush infinite", 20, (n + 1,)),
    ]
    for mode in ("even", "away", "down", "zero"):
        cases.append(("sum sign", mode + " flush infinite", 0, (n, n + 1)))
        cases.append(("sum sign", mode + " flush largest", 20, (n, n + 1)))
        cases.append(("zero difference", mode + " flush infinite", 0, (n + 1, n)))
        cases.append(("zero difference", mode + " flush largest", 20, (n + 1, n)))
    for rule in ("error term", "fast error"):
        for mode in ("even", "away", "down", "up", "zero"):
            cases.append((rule, mode + " flush infinite", 20, (n + 1, -n)))
            cases.append((rule, mode + " flush largest", 0, (n + 1, -n)))
        for mode in ("even", "away", "up"):
            cases.append((rule, mode + " gradual infinite", 0, (m, m)))
            cases.append((rule, mode + " gradual infinite", p + 1, (m * 2 ** (p + 1), m * 2 ** (p + 1))))
        cases.append((rule, "down gradual infinite", 0, (-m, -m)))
        cases.append((rule, "down gradual infinite", p + 1, (-m * 2 ** (p + 1), -m * 2 ** (p + 1))))
        for span in (p + 1, 20):
            x = n * 2 ** span
            cases.append((rule, "up gradual largest", span, (x, 1)))
            for way in ("down gradual largest", "zero gradual largest", "zero gradual infinite"):
                cases.append((rule, way, span, (x + 2 ** span, -1)))
    return cases


if __name__ == "__main__":
    unittest.main()
