"""The fourteen rules, and whether one holds for given numbers (points 7 and 8).

The functions that check a rule take its numbers in units (rulesheld/units.py).
"""

from rulesheld.errors import BadNumbers, BadRule
from rulesheld.formats import has_number, require_format
from rulesheld.units import are_number, is_infinite, largest_units, round_units, round_value, to_units


def rules():
    """The names of the fourteen rules."""
    return RULES


def arity(rule):
    """How many numbers a rule is about."""
    require_rule(rule)
    return ARITIES[rule]


def holds_for(form, rule, numbers):
    """Whether a rule holds for a tuple of numbers."""
    require_format(form)
    require_rule(rule)
    if not _are_numbers(form, numbers, ARITIES[rule]):
        raise BadNumbers("not a tuple of as many numbers as the rule takes")
    units = [to_units(form, number) for number in numbers]
    check = CHECKS[rule]
    return check(form, *units)


def require_rule(rule):
    """Raises BadRule for a value that is no name of a rule."""
    if rule not in RULES:
        raise BadRule("not a rule")


def _are_numbers(form, numbers, many):
    if not isinstance(numbers, tuple) or len(numbers) != many:
        return False
    return all([has_number(form, number) for number in numbers])


def _plus(form, x, y):
    return round_units(form, x + y, 1)


def _minus(form, x, y):
    return round_units(form, x - y, 1)


def _half(form, x):
    return round_units(form, x, 2)


def _opposite(units):
    if is_infinite(units):
        return "-inf" if units == "inf" else "inf"
    return -units


def _sum_sign(form, x, y):
    # y - x rounds to nothing below 0, so only 0 is not greater than 0
    return x >= y or _minus(form, y, x) != 0


def _zero_difference(form, x, y):
    return _minus(form, x, y) != 0 or x == y


def _close_difference(form, x, y):
    if x <= 0 or y <= 0 or x > 2 * y or y > 2 * x:
        return True
    return _minus(form, x, y) == x - y


def _error_term(form, x, y):
    s = _plus(form, x, y)
    return not is_infinite(s) and are_number(form, x + y - s)


def _fast_error(form, x, y):
    if abs(x) < abs(y):
        return True
    s = _plus(form, x, y)
    if is_infinite(s):
        return False
    # s is 0 or has the sign of x, and t is 0 or has that of y, so no difference of them can be infinite
    t = _minus(form, s, x)
    e = _minus(form, y, t)
    return s + e == x + y


def _symmetry(form, x, y):
    return _opposite(_plus(form, x, y)) == _plus(form, -x, -y)


def _midpoint(form, x, y):
    if not 0 <= x <= y:
        return True
    # y - x and its half lie between 0 and y, and so do their roundings
    middle = _plus(form, x, _half(form, _minus(form, y, x)))
    return not is_infinite(middle) and x <= middle <= y


def _average(form, x, y):
    if not 0 <= x <= y or x + y > largest_units(form):
        return True
    return x <= _half(form, _plus(form, x, y)) <= y


def _add_back(form, x, y):
    if not 0 <= y <= x:
        return True
    return _plus(form, _minus(form, x, y), y) == x


def _grouping(form, x, y, z):
    if min(x, y, z) < 0 or x + y + z > largest_units(form):
        return True
    left = _plus(form, _plus(form, x, y), z)
    right = _plus(form, x, _plus(form, y, z))
    # two equal results do not count if they are no numbers
    return not is_infinite(left) and left == right


def _absorption(form, x, y):
    return _plus(form, x, y) != x or y == 0


def _third(form, x):
    if x < 0 or 3 * x > largest_units(form):
        return True
    return round_units(form, round_units(form, 3 * x, 1), 3) == x


def _halves(form, x):
    half = _half(form, x)
    return _plus(form, half, half) == x


def _squares(form, x):
    return round_value(form, x * x, 1, 2 * form[1]) != 0 or x == 0


RULES = (
    "sum sign",
    "zero difference",
    "close difference",
    "error term",
    "fast error",
    "symmetry",
    "midpoint",
    "average",
    "add back",
    "grouping",
    "absorption",
    "third",
    "halves",
    "squares",
)

ARITIES = {
    "sum sign": 2,
    "zero difference": 2,
    "close difference": 2,
    "error term": 2,
    "fast error": 2,
    "symmetry": 2,
    "midpoint": 2,
    "average": 2,
    "add back": 2,
    "grouping": 3,
    "absorption": 2,
    "third": 1,
    "halves": 1,
    "squares": 1,
}

CHECKS = {
    "sum sign": _sum_sign,
    "zero difference": _zero_difference,
    "close difference": _close_difference,
    "error term": _error_term,
    "fast error": _fast_error,
    "symmetry": _symmetry,
    "midpoint": _midpoint,
    "average": _average,
    "add back": _add_back,
    "grouping": _grouping,
    "absorption": _absorption,
    "third": _third,
    "halves": _halves,
    "squares": _squares,
}
