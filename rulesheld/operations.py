"""Rounding and the rounded operations (points 5 and 6)."""

from math import isqrt

from rulesheld.errors import BadFraction, NotMade
from rulesheld.formats import is_within, require_format, require_number
from rulesheld.units import from_units, round_units, round_value, to_units

GREATEST_PART = 10 ** 60

# numbers of formats, and the middles between two of them, are multiples of 2**-41
ROOT_PLACES = 41


def round_to(form, a, b):
    """The fraction a / b, rounded."""
    require_format(form)
    if not is_within(a, -GREATEST_PART, GREATEST_PART) or not is_within(b, 1, GREATEST_PART):
        raise BadFraction("not a fraction within the limits")
    return from_units(form, round_value(form, a, b, 0))


def add(form, x, y):
    """The exact sum of two numbers, rounded."""
    _require_operands(form, x, y)
    return from_units(form, round_units(form, to_units(form, x) + to_units(form, y), 1))


def subtract(form, x, y):
    """The exact difference of two numbers, rounded."""
    _require_operands(form, x, y)
    return from_units(form, round_units(form, to_units(form, x) - to_units(form, y), 1))


def multiply(form, x, y):
    """The exact product of two numbers, rounded."""
    _require_operands(form, x, y)
    return from_units(form, round_value(form, x[0] * y[0], 1, x[1] + y[1]))


def divide(form, x, y):
    """The exact quotient of two numbers, rounded."""
    _require_operands(form, x, y)
    if y[0] == 0:
        raise NotMade("a quotient by 0")
    top = x[0] if y[0] > 0 else -x[0]
    return from_units(form, round_value(form, top, abs(y[0]), x[1] - y[1]))


def square_root(form, x):
    """The exact root of a number, rounded."""
    require_format(form)
    require_number(form, x)
    n, k = x
    if n < 0:
        raise NotMade("a root of a negative number")
    square = n << (k + 2 * ROOT_PLACES)
    root = isqrt(square)
    # a root between two places rounds like the middle of them: no number and no middle of numbers lies between
    halves = 2 * root if root * root == square else 2 * root + 1
    return from_units(form, round_value(form, halves, 1, -ROOT_PLACES - 1))


def _require_operands(form, x, y):
    require_format(form)
    require_number(form, x)
    require_number(form, y)
