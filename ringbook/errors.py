"""The refusals of Ringbook, one class each."""


class BookError(ValueError):
    """Any refusal."""


class NoNet(BookError):
    """The places and roads make no net."""


class NoWords(BookError):
    """There is no net of words with so many signs and that size."""


class NotRead(BookError):
    """The text is not what a net is written as."""


class NoPlace(BookError):
    """The net does not have that place."""


class NoTree(BookError):
    """The list is no tree into that place."""


class NoRing(BookError):
    """The list is no ring of the net, or no word ring."""


class NoNumber(BookError):
    """The number is below 0, or at or beyond how many there are."""
