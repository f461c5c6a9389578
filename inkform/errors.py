"""The refusals of the program, one class for each sort."""


class InkError(ValueError):
    pass


class NoLine(InkError):
    pass


class NoPart(InkError):
    pass


class NoDrawing(InkError):
    pass


class TooNarrow(InkError):
    pass


class NoFormula(InkError):
    pass


class NoRow(InkError):
    pass


class NoName(InkError):
    pass


class NoDeed(InkError):
    pass
