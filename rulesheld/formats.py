"""Formats, dyadics and the numbers of a format (points 2 to 4)."""

from rulesheld.errors import BadDyadic, BadFormat, BadNumber
from rulesheld.units import are_number, from_units, is_infinite, largest_units, normal_units, round_units, to_units

MODES = ("even", "away", "down", "up", "zero")
TINY_WAYS = ("gradual", "flush")
HUGE_WAYS = ("infinite", "largest")

LEAST_PRECISION = 4
GREATEST_PRECISION = 10
GREATEST_EXPONENT = 40
GREATEST_SPAN = 20

GREATEST_FACTOR = 10 ** 40
GREATEST_POWER = 400


def is_within(value, least, greatest):
    """Whether a value is an integer within limits that may be met."""
    # True and False are instances of int, but no integers here
    return isinstance(value, int) and not isinstance(value, bool) and least <= value <= greatest


def is_format(value):
    """Whether a value is a format."""
    if not isinstance(value, tuple) or len(value) != 6:
        return False
    p, low, high, mode, tiny, huge = value
    if not is_within(p, LEAST_PRECISION, GREATEST_PRECISION):
        return False
    if not is_within(low, -GREATEST_EXPONENT, GREATEST_EXPONENT):
        return False
    if not is_within(high, low, min(low + GREATEST_SPAN, GREATEST_EXPONENT)):
        return False
    return mode in MODES and tiny in TINY_WAYS and huge in HUGE_WAYS


def is_dyadic(value):
    """Whether a value is a dyadic."""
    if not isinstance(value, tuple) or len(value) != 2:
        return False
    n, k = value
    if not is_within(n, -GREATEST_FACTOR, GREATEST_FACTOR):
        return False
    if not is_within(k, -GREATEST_POWER, GREATEST_POWER):
        return False
    return n % 2 == 1 or (n == 0 and k == 0)


def is_number(form, value):
    """Whether a dyadic is a number of a format."""
    require_format(form)
    if not is_dyadic(value):
        raise BadDyadic("not a dyadic")
    return _stands_for_number(form, value)


def largest(form):
    """The greatest number of a format."""
    require_format(form)
    return from_units(form, largest_units(form))


def smallest_normal(form):
    """The least positive normal number of a format."""
    require_format(form)
    return from_units(form, normal_units(form))


def smallest(form):
    """The least positive number of a format."""
    require_format(form)
    if form[4] == "gradual":
        return from_units(form, 1)
    return from_units(form, normal_units(form))


def count_numbers(form):
    """How many numbers a format has."""
    require_format(form)
    p, low, high = form[:3]
    positive = (high - low + 1) << (p - 1)
    if form[4] == "gradual":
        positive = positive + normal_units(form) - 1
    return 2 * positive + 1


def next_up(form, number):
    """The least number greater than a number, None if there is none."""
    require_format(form)
    require_number(form, number)
    p, low, high = form[:3]
    # numbers are whole units, so the next one is the least from one unit above
    upward = (p, low, high, "up", form[4], "infinite")
    units = round_units(upward, to_units(form, number) + 1, 1)
    if is_infinite(units):
        return None
    return from_units(form, units)


def require_format(form):
    """Raises BadFormat for a value that is no format."""
    if not is_format(form):
        raise BadFormat("not a format")


def require_number(form, value):
    """Raises BadNumber for a value that is no number of a format."""
    if not has_number(form, value):
        raise BadNumber("not a number of the format")


def has_number(form, value):
    """Whether any value at all is a number of a format."""
    return is_dyadic(value) and _stands_for_number(form, value)


def _stands_for_number(form, dyadic):
    n, k = dyadic
    if n == 0:
        return True
    return k >= form[1] and are_number(form, to_units(form, dyadic))
