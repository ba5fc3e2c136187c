"""Numbers as texts (point 14)."""

from rulesheld.errors import BadDyadic, InvalidText, NotText
from rulesheld.formats import is_dyadic
from rulesheld.units import is_infinite

# longer numbers are beyond the limits of a dyadic, and Python may refuse to read very long ones
MOST_DIGITS = 40


def write_number(value):
    """The text of a dyadic, "inf" or "-inf"."""
    if is_infinite(value):
        return value
    if not is_dyadic(value):
        raise BadDyadic("not a dyadic, \"inf\" or \"-inf\"")
    n, k = value
    return "0" if n == 0 else f"{n}*2^{k}"


def read_number(text):
    """The dyadic, "inf" or "-inf" that a text stands for."""
    if not isinstance(text, str):
        raise NotText("not a string")
    return text if is_infinite(text) else read_dyadic(text)


def read_dyadic(text):
    """The dyadic that a string stands for."""
    if text == "0":
        return (0, 0)
    first, _, second = text.partition("*2^")
    number = (_read_integer(first), _read_integer(second))
    if number[0] == 0 or not is_dyadic(number):
        raise InvalidText("not a dyadic")
    return number


def _read_integer(text):
    digits = text.removeprefix("-")
    # isdigit alone would accept the digits of other scripts
    if not digits.isascii() or not digits.isdigit() or len(digits) > MOST_DIGITS:
        raise InvalidText("not an integer within the limits")
    number = int(text)
    if str(number) != text:
        raise InvalidText("a needless zero or sign")
    return number
