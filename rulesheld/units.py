"""Numbers of a format as whole multiples of 2**low, its unit.

Every number of a format is such a multiple, so that orders and exact sums of
numbers are those of integers. The functions here take valid arguments only.
"""


def to_units(form, number):
    """How many units a dyadic is that is a whole multiple of the unit."""
    n, k = number
    if n == 0:
        return 0
    return n << (k - form[1])


def from_units(form, units):
    """The dyadic of so many units; "inf" and "-inf" stay what they are."""
    if is_infinite(units):
        return units
    if units == 0:
        return (0, 0)
    zeros = (units & -units).bit_length() - 1
    return (units >> zeros, form[1] + zeros)


def is_infinite(units):
    """Whether the result of a rounding is no number."""
    return units in ("inf", "-inf")


def normal_units(form):
    """The least positive normal number in units."""
    return 1 << (form[0] - 1)


def largest_units(form):
    """The greatest number in units."""
    p, low, high = form[:3]
    return ((1 << p) - 1) << (high - low)


def are_number(form, units):
    """Whether so many units are a number of the format."""
    size = abs(units)
    if size < normal_units(form):
        return size == 0 or form[4] == "gradual"
    if size > largest_units(form):
        return False
    step = 1 << (size.bit_length() - form[0])
    return size % step == 0


def round_value(form, top, bottom, power):
    """The fraction top / bottom times 2**power, rounded, in units, "inf" or "-inf"."""
    shift = power - form[1]
    if shift < 0:
        return round_units(form, top, bottom << -shift)
    return round_units(form, top << shift, bottom)


def round_units(form, top, bottom):
    """So many units as the fraction top / bottom tells, rounded, in units, "inf" or "-inf"."""
    size = abs(top)
    inner, outer = _neighbours(form, size // bottom)
    rounded = inner
    if size != inner * bottom:
        # twice the distance from the middle, in parts of a unit: only its sign counts
        beyond = 2 * size - (inner + outer) * bottom
        if _goes_outward(form[3], top < 0, beyond, inner // (outer - inner)):
            rounded = outer
    return _bounded(form, -rounded if top < 0 else rounded)


def _neighbours(form, whole):
    """The unbounded format's last number up to whole units, and the next one."""
    if whole < normal_units(form) and form[4] == "flush":
        return (0, normal_units(form))
    step = 1 << max(0, whole.bit_length() - form[0])
    inner = whole - whole % step
    return (inner, inner + step)


def _goes_outward(mode, negative, beyond, inner_m):
    """Whether a fraction between two neighbours takes the one farther from zero."""
    if mode == "zero":
        return False
    if mode == "down":
        return negative
    if mode == "up":
        return not negative
    if beyond != 0:
        return beyond > 0
    return mode == "away" or inner_m % 2 == 1


def _bounded(form, units):
    """The units themselves, or what replaces them beyond the largest number."""
    last = largest_units(form)
    mode = form[3]
    huge = form[5]
    if units > last:
        return last if huge == "largest" or mode in ("down", "zero") else "inf"
    if units < -last:
        return -last if huge == "largest" or mode in ("up", "zero") else "-inf"
    return units
