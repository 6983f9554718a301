"""The refusals of the program."""


class StoneError(ValueError):
    pass


class NoLaying(StoneError):
    pass


class NoLoad(StoneError):
    pass


class NoPlan(StoneError):
    pass


class NoText(StoneError):
    pass


class NoDeed(StoneError):
    pass
