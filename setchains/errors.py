"""The refusals."""


class ChainError(ValueError):
    pass


class NoMany(ChainError):
    pass


class NoSet(ChainError):
    pass


class NoNumber(ChainError):
    pass


class NoNote(ChainError):
    pass
