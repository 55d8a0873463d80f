"""The errors that Closestfit raises."""


class FitError(ValueError):
    """The base class of all errors of Closestfit."""


class BadValue(FitError):
    """An argument has a wrong form."""

    def __init__(self, name):
        super().__init__(f"wrong form: {name}")
        self.name = name


class TooLarge(FitError):
    """What would have to be built is too large."""

    def __init__(self, what):
        super().__init__(f"too large: {what}")
        self.what = what


class NotPossible(FitError):
    """What is asked cannot be done."""

    def __init__(self, why):
        super().__init__(f"not possible: {why}")
        self.why = why


class TextError(FitError):
    """A text is wrong at a column."""

    def __init__(self, column, words):
        super().__init__(f"column {column}: {words}")
        self.column = column
        self.words = words
