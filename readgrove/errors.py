"""The refusals: one class each, all straight under GroveError."""


class GroveError(ValueError):
    pass


class NoGrammar(GroveError):
    pass


class NoReading(GroveError):
    pass


class Endless(GroveError):
    pass


class TooMany(GroveError):
    pass


class NoText(GroveError):
    pass


class NoOrder(GroveError):
    pass
