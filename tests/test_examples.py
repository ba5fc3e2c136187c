"""The examples of the interface, and where its names are defined."""

import unittest
from importlib import import_module

from rulesheld.decisions import counterexample, holds
from rulesheld.desks import Desk
from rulesheld.errors import BadChoice, BadNumber, BadNumbers, BadRule, InvalidText, NotMade, NotNow
from rulesheld.formats import (
    count_numbers, is_dyadic, is_format, is_number, largest, next_up, smallest, smallest_normal,
)
from rulesheld.operations import add, divide, multiply, round_to, square_root, subtract
from rulesheld.profiles import greatest_span, implies, parting, profile, profiles
from rulesheld.rules import arity, holds_for, rules
from rulesheld.texts import read_number, write_number

INTERFACE = {
    "formats": ("is_format", "is_dyadic", "is_number", "largest", "smallest_normal", "smallest", "count_numbers",
                "next_up"),
    "operations": ("round_to", "add", "subtract", "multiply", "divide", "square_root"),
    "rules": ("rules", "arity", "holds_for"),
    "decisions": ("holds", "counterexample"),
    "profiles": ("profile", "profiles", "implies", "parting", "greatest_span"),
    "texts": ("write_number", "read_number"),
    "desks": ("Desk",),
}


class Names(unittest.TestCase):
    def test_each_name_is_defined_in_its_module(self):
        for file, names in INTERFACE.items():
            module = import_module("rulesheld." + file)
            for name in names:
                self.assertEqual(getattr(module, name).__module__, module.__name__, name)


class Examples(unittest.TestCase):
    form = (4, -6, 4, "even", "gradual", "infinite")

    def test_formats(self):
        form = self.form
        self.assertEqual(
            [is_format(form), is_dyadic((2, 0)), is_number(form, (17, -6)), largest(form), smallest_normal(form),
             smallest(form), count_numbers(form), next_up(form, (15, -6))],
            [True, False, False, (15, 4), (1, -3), (1, -6), 191, (1, -2)])
        with self.assertRaises(BadNumber):
            next_up(form, (17, -6))

    def test_operations(self):
        form = self.form
        self.assertEqual(
            [add(form, (15, 4), (15, 4)), subtract(form, (1, 0), (1, -6)), multiply(form, (7, 0), (5, 0)),
             divide(form, (1, 0), (3, 0)), square_root(form, (1, 1)), round_to(form, 100, 3)],
            ["inf", (1, 0), (9, 2), (11, -5), (11, -3), (1, 5)])
        with self.assertRaises(NotMade):
            divide(form, (1, 0), (0, 0))

    def test_rules(self):
        form = self.form
        self.assertEqual(
            [len(rules()), arity("grouping"), holds_for(form, "add back", ((9, -5), (1, -6))),
             holds_for(form, "close difference", ((9, -5), (9, -6)))],
            [14, 3, False, True])
        with self.assertRaises(BadNumbers):
            holds_for(form, "halves", ())

    def test_decisions(self):
        form = self.form
        self.assertEqual(
            [holds(form, "midpoint"), holds(form, "error term"), counterexample(form, "error term"),
             counterexample(form, "midpoint"), counterexample(form, "third")],
            [True, False, ((15, 4), (15, 4)), None, ((7, -5),)])
        with self.assertRaises(BadRule):
            holds(form, "Midpoint")

    def test_profiles(self):
        form = self.form
        self.assertEqual(
            [profile(form), len(profiles()), implies("close difference", "sum sign"),
             parting("sum sign", "close difference"),
             greatest_span(6, "zero", "gradual", "infinite", ("fast error",))],
            [("sum sign", "zero difference", "close difference", "symmetry", "midpoint", "average"), 48, True,
             (4, -40, -40, "up", "flush", "infinite"), 6])
        with self.assertRaises(BadChoice):
            greatest_span(3, "zero", "gradual", "infinite", ())

    def test_texts(self):
        self.assertEqual(
            [write_number((-3, -2)), write_number((0, 0)), read_number("5*2^7"), read_number("-inf")],
            ["-3*2^-2", "0", (5, 7), "-inf"])
        with self.assertRaises(InvalidText):
            read_number("4*2^0")

    def test_desks(self):
        desk = Desk(self.form)
        self.assertEqual(
            [desk.run("load 15*2^4"), desk.run("add 15*2^4"), desk.run("show"), desk.undo(), desk.value,
             desk.run("rules")],
            [None, None, "inf", None, (15, 4), "6"])
        with self.assertRaises(NotNow):
            desk.run("divide 0")


if __name__ == "__main__":
    unittest.main()
