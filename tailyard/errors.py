"""The refusals of the program."""


class TailError(ValueError):
    pass


class NoPack(TailError):
    pass


class NoMachine(TailError):
    pass
