"""A desk: a format and an accumulator (point 15)."""

from rulesheld.errors import BadNumber, InvalidText, NotMade, NothingToUndo, NotNow, NotText
from rulesheld.formats import has_number, require_format
from rulesheld.operations import add, divide, multiply, square_root, subtract
from rulesheld.profiles import profile
from rulesheld.texts import read_dyadic, write_number

WORDS = ("add", "subtract", "multiply", "divide", "load")


class Desk:
    """Computes in one format, line by line."""

    def __init__(self, form):
        require_format(form)
        self._form = form
        self._results = [(0, 0)]

    @property
    def value(self):
        """The accumulator."""
        return self._results[-1]

    def run(self, line):
        """Does what a line says: a string if it asks for one, otherwise None."""
        if not isinstance(line, str):
            raise NotText("not a string")
        if line == "show":
            return write_number(self.value)
        if line == "rules":
            return str(len(profile(self._form)))
        word, number = _read_line(line)
        self._results.append(_result(self._form, word, self.value, number))
        return None

    def undo(self):
        """Takes back the last line that returned None."""
        if len(self._results) == 1:
            raise NothingToUndo("no line to take back")
        self._results.pop()


def _read_line(line):
    """The word and the number of a line that changes the accumulator; "root" has no number."""
    if line == "root":
        return (line, None)
    word, _, text = line.partition(" ")
    if word not in WORDS:
        raise InvalidText("not a line")
    return (word, read_dyadic(text))


def _result(form, word, value, number):
    if word == "load":
        if not has_number(form, number):
            raise NotNow("not a number of the format")
        return number
    # an accumulator that is "inf" or "-inf" is no number either
    try:
        return _computed(form, word, value, number)
    except (BadNumber, NotMade):
        raise NotNow("not possible with the accumulator as it is") from None


def _computed(form, word, value, number):
    if word == "root":
        return square_root(form, value)
    if word == "add":
        return add(form, value, number)
    if word == "subtract":
        return subtract(form, value, number)
    if word == "multiply":
        return multiply(form, value, number)
    return divide(form, value, number)
