"""The errors of the package."""


class RuleError(ValueError):
    """The base class of all errors of the package."""


class BadFormat(RuleError):
    """A value is no format."""


class BadDyadic(RuleError):
    """A value is no dyadic."""


class BadNumber(RuleError):
    """A value is no number of the format."""


class BadFraction(RuleError):
    """Two values are no fraction within the limits."""


class BadRule(RuleError):
    """A value is no name of a rule."""


class BadNumbers(RuleError):
    """A value is no tuple of as many numbers as a rule takes."""


class BadChoice(RuleError):
    """A value stands in no format."""


class BadRules(RuleError):
    """A value is no tuple of different rules."""


class NotMade(RuleError):
    """An operation has no result for these numbers."""


class NotText(RuleError):
    """A value is no string."""


class InvalidText(RuleError):
    """A string is not of the form that is asked for."""


class NotNow(RuleError):
    """A desk cannot run a line in its present state."""


class NothingToUndo(RuleError):
    """A desk has run no line that it could take back."""
