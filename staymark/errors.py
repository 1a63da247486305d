"""The refusals, one class for each."""


class MarkError(ValueError):
    pass


class NoSign(MarkError):
    pass


class NoPlace(MarkError):
    pass


class NoDeed(MarkError):
    pass


class NoName(MarkError):
    pass


class NoneLeft(MarkError):
    pass


class BadBook(MarkError):
    pass


class NoText(MarkError):
    pass
