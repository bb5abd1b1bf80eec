"""The refusals, one class for each."""


class PaintError(ValueError):
    pass


class NoLaying(PaintError):
    pass


class NoNumber(PaintError):
    pass


class TooMany(PaintError):
    pass


class BadRun(PaintError):
    pass


class Wide(PaintError):
    pass


class NoNote(PaintError):
    pass
