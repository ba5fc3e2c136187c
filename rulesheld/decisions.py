"""Which rules hold for all numbers of a format, and numbers that break the others (points 9 and 10).

The functions that find numbers take a format in which the rule does not hold, and give units (rulesheld/units.py).
"""

from rulesheld.formats import require_format
from rulesheld.rules import require_rule
from rulesheld.units import from_units, largest_units, normal_units


def holds(form, rule):
    """Whether a rule holds for all numbers of a format."""
    require_format(form)
    require_rule(rule)
    decide = DECISIONS[rule]
    return decide(form)


def counterexample(form, rule):
    """Numbers for which a rule does not hold, None if it holds for all."""
    if holds(form, rule):
        return None
    find = FINDERS[rule]
    return tuple([from_units(form, units) for units in find(form)])


def _span(form):
    return form[2] - form[1]


def _is_nearest(form):
    return form[3] in ("even", "away")


def _is_gradual(form):
    return form[4] == "gradual"


def _is_largest(form):
    return form[5] == "largest"


def _smallest_units(form):
    return 1 if _is_gradual(form) else normal_units(form)


def _holds_sum_sign(form):
    return _is_gradual(form) or form[3] == "up"


def _holds_errors(form):
    if not _is_gradual(form):
        return False
    if not _is_largest(form) and form[3] != "zero":
        return False
    return _is_nearest(form) or _span(form) <= form[0]


def _holds_symmetry(form):
    if form[3] in ("even", "away", "zero"):
        return True
    return _is_gradual(form) and _is_largest(form) and _span(form) == 0


def _holds_midpoint(form):
    return _is_gradual(form) or form[3] in ("even", "down", "zero")


def _holds_average(_):
    return True


def _holds_add_back(form):
    return _is_gradual(form) and _span(form) == 0


def _holds_grouping(form):
    return _span(form) == 0


def _holds_absorption(form):
    if not _is_nearest(form) or _is_largest(form):
        return False
    return _span(form) <= (0 if _is_gradual(form) else form[0] - 1)


def _holds_third(form):
    return _span(form) <= (1 if _is_nearest(form) else 0)


def _holds_halves(_):
    return False


def _holds_squares(form):
    p, low, _, mode = form[:4]
    if mode == "up":
        return True
    smallest_power = low if _is_gradual(form) else low + p - 1
    return smallest_power >= (-1 if mode == "away" else 0)


def _find_sum_sign(form):
    n = normal_units(form)
    return (n, n + 1)


def _find_zero_difference(form):
    n = normal_units(form)
    return (n, n + 1) if form[3] == "up" else (n + 1, n)


def _find_close_difference(form):
    n = normal_units(form)
    return (n + 1, n)


def _find_errors(form):
    n = normal_units(form)
    last = largest_units(form)
    mode = form[3]
    if not _is_gradual(form):
        return (n + 1, -n)
    if not _is_largest(form) and mode != "zero":
        return (-last, -last) if mode == "down" else (last, last)
    step = 1 << _span(form)
    return (n * step, 1) if mode == "up" else (n * step + step, -1)


def _find_symmetry(form):
    n = normal_units(form)
    last = largest_units(form)
    if not _is_gradual(form):
        return (n + 1, -n)
    return (2 * n, 1) if _span(form) > 0 else (last, last)


def _find_midpoint(form):
    n = normal_units(form)
    return (n, n + n // 2)


def _find_add_back(form):
    n = normal_units(form)
    return (2 * n + 2, 1) if _is_gradual(form) else (n + 1, n)


def _find_grouping(form):
    n = normal_units(form)
    return (n + 1, n + 1, n)


def _find_absorption(form):
    n = normal_units(form)
    last = largest_units(form)
    mode = form[3]
    if mode in ("down", "zero"):
        return (last, _smallest_units(form))
    if mode == "up":
        return (-last, -_smallest_units(form))
    if _is_largest(form):
        return (last, last)
    if _is_gradual(form):
        return (2 * n, 1) if mode == "even" else (2 * n + 2, -1)
    # N 2**p is 2 N N
    return (2 * n * n, n) if mode == "even" else (2 * n * (n + 1), -n)


def _find_third(form):
    n = normal_units(form)
    return (2 * n - 2,) if _is_nearest(form) else (n + 1,)


def _find_smallest(form):
    return (_smallest_units(form),)


DECISIONS = {
    "sum sign": _holds_sum_sign,
    "zero difference": _is_gradual,
    "close difference": _is_gradual,
    "error term": _holds_errors,
    "fast error": _holds_errors,
    "symmetry": _holds_symmetry,
    "midpoint": _holds_midpoint,
    "average": _holds_average,
    "add back": _holds_add_back,
    "grouping": _holds_grouping,
    "absorption": _holds_absorption,
    "third": _holds_third,
    "halves": _holds_halves,
    "squares": _holds_squares,
}

# "average" is not here, as it holds in every format
FINDERS = {
    "sum sign": _find_sum_sign,
    "zero difference": _find_zero_difference,
    "close difference": _find_close_difference,
    "error term": _find_errors,
    "fast error": _find_errors,
    "symmetry": _find_symmetry,
    "midpoint": _find_midpoint,
    "add back": _find_add_back,
    "grouping": _find_grouping,
    "absorption": _find_absorption,
    "third": _find_third,
    "halves": _find_smallest,
    "squares": _find_smallest,
}
