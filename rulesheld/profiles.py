"""Which sets of rules hold together, and which rule implies which (points 11 to 13)."""

from rulesheld.decisions import holds
from rulesheld.errors import BadChoice, BadRules
from rulesheld.formats import GREATEST_SPAN, HUGE_WAYS, MODES, TINY_WAYS, is_format, require_format
from rulesheld.rules import RULES, require_rule

# For every format, one of the first formats has the same profile and does not come after it:
# - All limits of the spans (0, 1, p - 1 and p) are met with the least precision.
# - The least exponent counts for "squares" only, which asks whether k is at least -1 or at least 0. These are the
#   first of all and the first with k = -1 and with k = 0, if tiny is "flush" (k = low + 3) and if it is "gradual".
# - Spans between two limits have the same rules; these are the first of each kind.
FIRST_PRECISION = 4
FIRST_EXPONENTS = (-40, -4, -3, -1, 0)
FIRST_SPANS = (0, 1, 2, 4, 5)


def profile(form):
    """The rules that hold for all numbers of a format."""
    require_format(form)
    return tuple([rule for rule in RULES if holds(form, rule)])


def profiles():
    """All profiles that formats have, ascending."""
    return tuple(sorted({profile(form) for form in _first_formats()}))


def implies(one, other):
    """Whether one rule holds in no format without the other."""
    return parting(one, other) is None


def parting(one, other):
    """The least format in which one rule holds and the other does not, None if there is none."""
    require_rule(one)
    require_rule(other)
    for form in _first_formats():
        if holds(form, one) and not holds(form, other):
            return form
    return None


def greatest_span(p, mode, tiny, huge, wanted):
    """The greatest span with which all wanted rules hold, None if there is none."""
    if not is_format((p, 0, 0, mode, tiny, huge)):
        raise BadChoice("not in any format")
    if not _are_different_rules(wanted):
        raise BadRules("not a tuple of different rules")
    for span in range(GREATEST_SPAN, -1, -1):
        held = profile((p, 0, span, mode, tiny, huge))
        if all([rule in held for rule in wanted]):
            return span
    return None


def _first_formats():
    """The first formats, ascending."""
    return [
        (FIRST_PRECISION, low, low + span, mode, tiny, huge)
        for low in FIRST_EXPONENTS
        for span in FIRST_SPANS
        for mode in sorted(MODES)
        for tiny in sorted(TINY_WAYS)
        for huge in sorted(HUGE_WAYS)
    ]


def _are_different_rules(wanted):
    if not isinstance(wanted, tuple):
        return False
    return all([rule in RULES and wanted.count(rule) == 1 for rule in wanted])
