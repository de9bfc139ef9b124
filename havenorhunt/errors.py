"""The errors that the program raises."""


class GroundError(ValueError):
    """The base class of all errors that the program raises."""


class BadText(GroundError):
    """A text is not the text of what is to be read."""


class BadSentence(GroundError):
    """A sentence has free names where it must not, or not as many as it must."""


class NoCatch(GroundError):
    """A plan does not catch the runner."""


class NotHere(GroundError):
    """A node, or an edge, is not there; or there is no place for it."""

    def __init__(self, what):
        self.what = what
