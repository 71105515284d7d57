"""The refusals of the program, one class each."""


class LoomError(ValueError):
    pass


class NoRest(LoomError):
    pass


class TooLarge(LoomError):
    pass


class NoLoom(LoomError):
    pass


class NoRibbon(LoomError):
    pass


class NoHole(LoomError):
    pass


class Taken(LoomError):
    pass


class Over(LoomError):
    pass


class NoDeed(LoomError):
    pass


class NoPage(LoomError):
    pass


class NoPaper(LoomError):
    pass
