"""Points 11 to 13: sets of rules."""

import unittest
from functools import lru_cache
from itertools import permutations

from rulesheld.decisions import holds
from rulesheld.errors import BadChoice, BadFormat, BadRule, BadRules
from rulesheld.profiles import greatest_span, implies, parting, profile, profiles
from rulesheld.rules import rules

from tests.helpers import EXAMPLE, STRANGE, formats, ways

WRONG_RULES = STRANGE + ("Halves", "halves ", "sumsign", ("halves",), rules(), 0, 1, 14)


@lru_cache(maxsize=None)
def least_formats():
    """Each profile of all formats, with the least format that has it."""
    found = {}
    for p in range(4, 11):
        for low in range(-40, 41):
            for high in range(low, min(40, low + 20) + 1):
                for form in sorted(formats(p, low, high)):
                    found.setdefault(profile(form), form)
    return found


class Profile(unittest.TestCase):
    def test_against_holds(self):
        for p in (4, 7, 10):
            for span in (0, 1, 2, p - 1, p, p + 1, 20):
                for low in (-40, -p, -1, 0, 40 - span):
                    for form in formats(p, low, low + span):
                        got = profile(form)
                        self.assertIsInstance(got, tuple)
                        self.assertEqual(got, tuple(rule for rule in rules() if holds(form, rule)), form)

    def test_some(self):
        self.assertEqual(profile((4, 0, 0, "up", "gradual", "largest")), (
            "sum sign", "zero difference", "close difference", "error term", "fast error", "symmetry", "midpoint",
            "average", "add back", "grouping", "third", "squares"))
        self.assertEqual(profile((10, -40, -20, "away", "flush", "largest")), ("symmetry", "average"))

    def test_errors(self):
        for form in STRANGE + ((3,) + EXAMPLE[1:], EXAMPLE[:5], (4, -6, 15) + EXAMPLE[3:]):
            with self.assertRaises(BadFormat):
                profile(form)


class Profiles(unittest.TestCase):
    def test_ascending_without_repetition(self):
        got = profiles()
        self.assertIsInstance(got, tuple)
        self.assertEqual(len(got), 48)
        for one, other in zip(got, got[1:]):
            self.assertLess(one, other)

    def test_all_that_formats_have(self):
        self.assertEqual(profiles(), tuple(sorted(least_formats())))

    def test_each_call_gives_the_same(self):
        self.assertEqual(profiles(), profiles())


class Implications(unittest.TestCase):
    def test_every_pair(self):
        for one in rules():
            for other in rules():
                parted = [form for held, form in least_formats().items() if one in held and other not in held]
                self.assertEqual(parting(one, other), min(parted, default=None), (one, other))
                self.assertIs(implies(one, other), not parted, (one, other))

    def test_a_format_that_parts(self):
        for one in rules():
            for other in rules():
                form = parting(one, other)
                if form is not None:
                    self.assertIs(holds(form, one), True)
                    self.assertIs(holds(form, other), False)

    def test_some(self):
        for rule in rules():
            self.assertIs(implies(rule, rule), True)
            self.assertIsNone(parting(rule, rule))
            # "average" always holds, "halves" never
            self.assertIs(implies(rule, "average"), True)
            self.assertIs(implies("halves", rule), True)
        self.assertIs(implies("error term", "fast error"), True)
        self.assertIs(implies("fast error", "error term"), True)
        self.assertIs(implies("add back", "third"), True)
        self.assertIs(implies("third", "add back"), False)
        self.assertEqual(parting("average", "halves"), (4, -40, -40, "away", "flush", "infinite"))
        self.assertEqual(parting("third", "grouping"), (4, -40, -39, "away", "flush", "infinite"))
        self.assertEqual(parting("absorption", "third"), (4, -40, -38, "away", "flush", "infinite"))
        self.assertEqual(parting("absorption", "squares"), (4, -40, -40, "away", "flush", "infinite"))
        self.assertEqual(parting("squares", "midpoint"), (4, -40, -40, "up", "flush", "infinite"))
        self.assertEqual(parting("squares", "sum sign"), (4, -4, -4, "away", "flush", "infinite"))

    def test_errors(self):
        for rule in WRONG_RULES:
            for function in (implies, parting):
                with self.assertRaises(BadRule):
                    function(rule, "halves")
                with self.assertRaises(BadRule):
                    function("halves", rule)
                with self.assertRaises(BadRule):
                    function(rule, rule)


class GreatestSpan(unittest.TestCase):
    def setUp(self):
        self.held = {}

    def expected(self, p, way, wanted):
        spans = []
        for span in range(21):
            form = (p, 0, span) + way
            if form not in self.held:
                self.held[form] = {rule for rule in rules() if holds(form, rule)}
            if set(wanted) <= self.held[form]:
                spans.append(span)
        return max(spans, default=None)

    def check(self, p, way, wanted):
        self.assertEqual(greatest_span(p, *way, wanted), self.expected(p, way, wanted), (p, way, wanted))

    def test_none_and_one_rule(self):
        for p in range(4, 11):
            for way in ways():
                self.assertEqual(greatest_span(p, *way, ()), 20)
                for rule in rules():
                    self.check(p, way, (rule,))

    def test_several_rules(self):
        for way in ways():
            for wanted in permutations(rules(), 2):
                self.check(5, way, wanted)
            for k in range(len(rules()) - 2):
                self.check(9, way, rules()[k:k + 3])
            self.check(10, way, tuple(reversed(rules()[:-2])))
            self.check(4, way, rules())

    def test_some(self):
        self.assertEqual(greatest_span(4, "even", "flush", "infinite", ("absorption",)), 3)
        self.assertEqual(greatest_span(10, "even", "flush", "infinite", ("absorption",)), 9)
        self.assertEqual(greatest_span(10, "even", "flush", "infinite", ("absorption", "third")), 1)
        self.assertEqual(greatest_span(10, "even", "flush", "infinite", ("third", "absorption")), 1)
        self.assertEqual(greatest_span(10, "even", "flush", "infinite", ("grouping", "third")), 0)
        self.assertEqual(greatest_span(10, "even", "gradual", "largest", ("error term", "squares")), 20)
        self.assertEqual(greatest_span(7, "down", "gradual", "largest", ("error term", "squares")), 7)
        self.assertIsNone(greatest_span(4, "even", "flush", "infinite", ("halves",)))
        self.assertIsNone(greatest_span(4, "even", "flush", "infinite", ("average", "sum sign")))

    def test_bad_choices(self):
        for p in STRANGE + (3, 11, -4, 0, 100, (4,)):
            self.refuses(BadChoice, p, "even", "gradual", "infinite", ())
        for mode in STRANGE + ("Even", "even ", "nearest", "gradual", 0, ("even",)):
            if mode != "even":
                self.refuses(BadChoice, 4, mode, "gradual", "infinite", ())
        for tiny in STRANGE + ("Flush", "infinite", "even", 1, ("flush",)):
            self.refuses(BadChoice, 4, "even", tiny, "infinite", ())
        for huge in STRANGE + ("Infinite", "gradual", "inf", 1, ("largest",)):
            self.refuses(BadChoice, 4, "even", "gradual", huge, ())

    def test_bad_rules(self):
        for wanted in STRANGE + (
                0, "halves", ["halves"], ["sum sign", "halves"], ("Halves",), ("halves", "halves"), (("halves",),),
                ("halves", "average", "halves"), ("average", None), (True,), (0,), {"halves": 1}, (["halves"],),
                ("average", "average", "no rule"), rules() + ("halves",), rules() + rules(), ("",)):
            self.refuses(BadRules, 4, "even", "gradual", "infinite", wanted)

    def test_the_choices_come_before_the_rules(self):
        for wanted in (None, [], ("halves", "halves"), ("no rule",)):
            self.refuses(BadChoice, 3, "even", "gradual", "infinite", wanted)
            self.refuses(BadChoice, 4, "odd", "gradual", "infinite", wanted)
            self.refuses(BadChoice, 4, "even", "grad", "infinite", wanted)
            self.refuses(BadChoice, 4, "even", "gradual", "huge", wanted)

    def refuses(self, error, *arguments):
        with self.assertRaises(error):
            greatest_span(*arguments)


if __name__ == "__main__":
    unittest.main()
