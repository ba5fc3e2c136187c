"""Point 1: the classes of errors, and which error comes first."""

import unittest

from rulesheld import errors
from rulesheld.decisions import counterexample, holds
from rulesheld.desks import Desk
from rulesheld.errors import (
    BadChoice, BadDyadic, BadFormat, BadFraction, BadNumber, BadNumbers, BadRule, BadRules, InvalidText, NotMade,
    NothingToUndo, NotNow, NotText, RuleError,
)
from rulesheld.formats import count_numbers, is_number, largest, next_up, smallest, smallest_normal
from rulesheld.operations import add, divide, multiply, round_to, square_root, subtract
from rulesheld.profiles import greatest_span, implies, parting, profile
from rulesheld.rules import arity, holds_for
from rulesheld.texts import read_number, write_number

from tests.helpers import EXAMPLE, STRANGE

NAMES = (
    "BadFormat", "BadDyadic", "BadNumber", "BadFraction", "BadRule", "BadNumbers", "BadChoice", "BadRules",
    "NotMade", "NotText", "InvalidText", "NotNow", "NothingToUndo",
)

BAD_FORMAT = (3,) + EXAMPLE[1:]
ONE = (1, 0)


class Classes(unittest.TestCase):
    def test_each_is_a_direct_subclass_of_rule_error(self):
        self.assertEqual(RuleError.__bases__, (ValueError,))
        for name in NAMES:
            self.assertEqual(getattr(errors, name).__bases__, (RuleError,), name)

    def test_the_module_has_these_errors_and_no_others(self):
        found = {name for name in vars(errors) if isinstance(getattr(errors, name), type)}
        self.assertEqual(found, {"RuleError"} | set(NAMES))

    def test_they_have_no_fields(self):
        for name in NAMES:
            self.assertEqual(vars(getattr(errors, name)("told")), {})


class Order(unittest.TestCase):
    def check(self, error, function, *arguments):
        with self.assertRaises(RuleError) as caught:
            function(*arguments)
        self.assertIs(caught.exception.__class__, error)

    def test_the_format_comes_first(self):
        for form in (BAD_FORMAT,) + STRANGE:
            for function in (largest, smallest_normal, smallest, count_numbers):
                self.check(BadFormat, function, form)
            self.check(BadFormat, is_number, form, (2, 0))
            self.check(BadFormat, next_up, form, (2, 0))
            self.check(BadFormat, round_to, form, None, 0)
            for operation in (add, subtract, multiply, divide):
                self.check(BadFormat, operation, form, None, None)
                self.check(BadFormat, operation, form, ONE, (0, 0))
            self.check(BadFormat, square_root, form, None)
            self.check(BadFormat, square_root, form, (-1, 0))
            self.check(BadFormat, holds_for, form, "no rule", None)
            self.check(BadFormat, profile, form)
            self.check(BadFormat, Desk, form)
            for function in (holds, counterexample):
                self.check(BadFormat, function, form, "no rule")
                self.check(BadFormat, function, form, "average")

    def test_is_number_has_one_error_for_its_value_and_next_up_another(self):
        for value in STRANGE + ((2, 0), (0, 1)):
            self.check(BadDyadic, is_number, EXAMPLE, value)
            self.check(BadNumber, next_up, EXAMPLE, value)
        self.assertIs(is_number(EXAMPLE, (17, 0)), False)
        self.check(BadNumber, next_up, EXAMPLE, (17, 0))

    def test_both_parts_of_a_fraction_have_the_same_error(self):
        for value in STRANGE:
            self.check(BadFraction, round_to, EXAMPLE, value, 1)
            self.check(BadFraction, round_to, EXAMPLE, 1, value)
            self.check(BadFraction, round_to, EXAMPLE, value, value)

    def test_not_made_comes_after_the_numbers(self):
        self.check(NotMade, divide, EXAMPLE, ONE, (0, 0))
        self.check(NotMade, divide, EXAMPLE, (0, 0), (0, 0))
        self.check(BadNumber, divide, EXAMPLE, (17, 0), (0, 0))
        self.check(BadNumber, divide, EXAMPLE, None, (0, 0))
        self.check(NotMade, square_root, EXAMPLE, (-1, 0))
        self.check(BadNumber, square_root, EXAMPLE, (-17, 0))

    def test_the_rule_comes_before_the_numbers(self):
        for rule in STRANGE:
            self.check(BadRule, holds_for, EXAMPLE, rule, None)
            self.check(BadRule, holds_for, EXAMPLE, rule, (ONE, ONE))
            self.check(BadRule, arity, rule)
            for function in (holds, counterexample):
                self.check(BadRule, function, EXAMPLE, rule)
            for function in (implies, parting):
                self.check(BadRule, function, rule, "halves")
                self.check(BadRule, function, "halves", rule)
        self.check(BadNumbers, holds_for, EXAMPLE, "halves", None)

    def test_a_choice_comes_before_the_rules(self):
        for value in STRANGE:
            self.check(BadChoice, greatest_span, value, "even", "flush", "largest", None)
            self.check(BadChoice, greatest_span, 4, "even", value, "largest", None)
            self.check(BadChoice, greatest_span, 4, "even", "flush", value, None)
            self.check(BadRules, greatest_span, 4, "even", "flush", "largest", value)
        self.check(BadChoice, greatest_span, 4, "Even", "flush", "largest", ("halves", "halves"))

    def test_texts_and_lines(self):
        desk = Desk(EXAMPLE)
        for value in STRANGE:
            if value not in ("inf", "-inf"):
                self.check(BadDyadic, write_number, value)
            if not isinstance(value, str):
                self.check(NotText, read_number, value)
                self.check(NotText, desk.run, value)
        self.check(InvalidText, read_number, "even")
        self.check(InvalidText, desk.run, "even")
        # no line comes before what is not possible now
        desk.run("load -1*2^0")
        self.check(InvalidText, desk.run, "root 0")
        self.check(NotNow, desk.run, "root")
        self.check(InvalidText, desk.run, "divide 0*2^0")
        self.check(NotNow, desk.run, "divide 0")
        desk.undo()
        self.check(NothingToUndo, desk.undo)

    def test_a_call_that_fails_leaves_its_arguments_as_they_are(self):
        form, rule, numbers = list(EXAMPLE), ["halves"], [[1, 0]]
        self.check(BadFormat, holds_for, form, rule, numbers)
        self.check(BadRule, holds_for, EXAMPLE, rule, numbers)
        self.check(BadNumbers, holds_for, EXAMPLE, "halves", numbers)
        for function in (holds, counterexample):
            self.check(BadFormat, function, form, rule)
            self.check(BadRule, function, EXAMPLE, rule)
        for function in (implies, parting):
            self.check(BadRule, function, rule, rule)
        for function in (profile, Desk):
            self.check(BadFormat, function, form)
        self.check(BadRules, greatest_span, 4, "even", "flush", "largest", rule)
        self.check(BadDyadic, write_number, numbers)
        self.check(NotText, read_number, rule)
        self.check(NotText, Desk(EXAMPLE).run, rule)
        self.assertEqual((form, rule, numbers), (list(EXAMPLE), ["halves"], [[1, 0]]))


if __name__ == "__main__":
    unittest.main()
