"""The refusals, each a class of its own."""


class PlusError(ValueError):
    pass


class NoSquare(PlusError):
    pass


class NoTable(PlusError):
    pass


class NoSize(PlusError):
    pass


class NoMove(PlusError):
    pass


class Unlike(PlusError):
    pass


class TooGreat(PlusError):
    pass


class NoNumbers(PlusError):
    pass


class NoNote(PlusError):
    pass
