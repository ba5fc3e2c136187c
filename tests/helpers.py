"""What several test files need: small formats, strange values, and slow but plain references.

The references follow the words of the document over fractions and lists of all numbers;
they share no code with the package.
"""

from fractions import Fraction
from functools import lru_cache

from rulesheld.desks import Desk
from rulesheld.errors import BadFormat, RuleError

MODES = ("even", "away", "down", "up", "zero")
TINY_WAYS = ("gradual", "flush")
HUGE_WAYS = ("infinite", "largest")

EXAMPLE = (4, -6, 4, "even", "gradual", "infinite")

# no value here is a format, a dyadic, an integer, a rule or a tuple of numbers
STRANGE = (
    "", "even", "inf", "-inf", "0", True, False, None, [], {}, [1, 0], [(1, 0)], {1: 0},
    [4, -6, 4, "even", "gradual", "infinite"], {"sum sign": 2}, ["sum sign"],
    ((),), (None,), (True, False), ((1, 0), None, [], {}), BadFormat("x"), RuleError(),
    Desk(EXAMPLE), (Desk(EXAMPLE), 0),
)


def ways():
    """All modes, with both ways to treat tiny and both to treat huge results."""
    return [(mode, tiny, huge) for mode in MODES for tiny in TINY_WAYS for huge in HUGE_WAYS]


def formats(p, low, high):
    """All formats with this precision and these exponents."""
    return [(p, low, high) + way for way in ways()]


def value(dyadic):
    n, k = dyadic
    return n * Fraction(2) ** k


def dyadic(fraction):
    """The dyadic of an integer or a fraction; "inf" and "-inf" stay what they are."""
    if fraction in ("inf", "-inf"):
        return fraction
    fraction = Fraction(fraction)
    if fraction == 0:
        return (0, 0)
    n, k = fraction.numerator, 1 - fraction.denominator.bit_length()
    while n % 2 == 0:
        n, k = n // 2, k + 1
    return (n, k)


def dyadics(*fractions):
    return tuple(dyadic(fraction) for fraction in fractions)


@lru_cache(maxsize=None)
def numbers_of(form):
    """All numbers of a format as an ascending tuple of fractions."""
    p, low, high, _, tiny, _ = form
    positive = {m * Fraction(2) ** e for e in range(low, high + 1) for m in range(2 ** (p - 1), 2 ** p)}
    if tiny == "gradual":
        positive |= {m * Fraction(2) ** low for m in range(1, 2 ** (p - 1))}
    return tuple(sorted({-x for x in positive} | {Fraction(0)} | positive))


@lru_cache(maxsize=None)
def unbounded(p, low, tiny, top):
    """The numbers that are not negative, continued to the exponent top, each with its exponent."""
    found = [(Fraction(0), low)]
    if tiny == "gradual":
        found += [(m * Fraction(2) ** low, low) for m in range(1, 2 ** (p - 1))]
    for e in range(low, top + 1):
        found += [(m * Fraction(2) ** e, e) for m in range(2 ** (p - 1), 2 ** p)]
    return found


def reference(form, fraction):
    """What a fraction rounds to, as a fraction, "inf" or "-inf"."""
    size = abs(fraction)
    return _reference(form, fraction < 0, lambda x: (size > x) - (size < x))


def reference_root(form, fraction):
    """What the root of a fraction that is not negative rounds to."""
    return _reference(form, False, lambda x: (fraction > x * x) - (fraction < x * x))


def _reference(form, negative, compare):
    p, low, high, mode, tiny, huge = form
    top = high
    while compare(Fraction(2) ** (top + p)) >= 0:
        top += 1
    grid = unbounded(p, low, tiny, top + 1)
    first, last = 0, len(grid) - 1
    while last - first > 1:
        middle = (first + last) // 2
        if compare(grid[middle][0]) >= 0:
            first = middle
        else:
            last = middle
    (near, e), (far, _) = grid[first], grid[last]
    if compare(near) == 0:
        chosen = near
    else:
        chosen = {
            "down": far if negative else near,
            "up": near if negative else far,
            "zero": near,
            "even": _nearer(form, near, far, e, compare),
            "away": _nearer(form, near, far, e, compare),
        }[mode]
    greatest = (2 ** p - 1) * Fraction(2) ** high
    if chosen > greatest:
        if negative:
            return -greatest if huge == "largest" or mode in ("up", "zero") else "-inf"
        return greatest if huge == "largest" or mode in ("down", "zero") else "inf"
    return -chosen if negative else chosen


def _nearer(form, near, far, e, compare):
    p, low, _, mode, tiny, _ = form
    side = compare((near + far) / 2)
    if side != 0:
        return far if side > 0 else near
    if mode == "away":
        return far
    if near == 0 and tiny == "flush":
        return near
    return [x for x in (near, far) if x / Fraction(2) ** e % 2 == 0][0]
