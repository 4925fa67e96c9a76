"""The refusals: each has its own class, and all stand straight beneath GroveError."""


class GroveError(ValueError):
    pass


class NoBottom(GroveError):
    pass


class NoTree(GroveError):
    pass


class NoChange(GroveError):
    pass


class NoStart(GroveError):
    pass


class NoTable(GroveError):
    pass


class NoName(GroveError):
    pass


class NoWeighing(GroveError):
    pass


class NotAlike(GroveError):
    pass


class NoParts(GroveError):
    pass


class TooMany(GroveError):
    pass


class NoText(GroveError):
    pass


class NoLine(GroveError):
    pass
