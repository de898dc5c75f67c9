"""The refusals of the program."""


# Under ValueError, so that an asker who knows only Python's own errors can take every refusal.
class FerryError(ValueError):
    pass


class NoDeed(FerryError):
    pass


class NoWay(FerryError):
    pass


class NoOrder(FerryError):
    pass


class NoLine(FerryError):
    pass
