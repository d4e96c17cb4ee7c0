"""The errors of Joinhall: each one stands directly under HallError."""


class HallError(ValueError):
    """What all errors of Joinhall stand under."""


class ZeroDenominator(HallError):
    """A fraction would have the denominator 0."""


class TextError(HallError):
    """A text does not have the form that it must have."""


class CatalogueError(HallError):
    """A catalogue is none."""


class TooLarge(HallError):
    """There is more of something than a limit allows."""


class UnknownTable(HallError):
    """A catalogue has no table of a name."""


class RowError(HallError):
    """A row does not fit, is there already, or is not there."""


class PatternError(HallError):
    """A pattern is none, or does not fit its catalogue."""


class OrderError(HallError):
    """An order does not have each variable of a pattern once."""


class WalkError(HallError):
    """A walker cannot do a step where it is."""


class VariableError(HallError):
    """The chosen variables are not different ones of a pattern."""


class CoverError(HallError):
    """The fractions of a cover cannot be used for a bound."""


class PartsError(HallError):
    """A tree of parts is not right for a pattern."""


class NoAnswer(HallError):
    """There is no such answer."""


class KindError(HallError):
    """There is no arithmetic of a name."""


class WeightError(HallError):
    """The facts of weights are out of order or unknown."""


class StandingError(HallError):
    """A name of a standing pattern is none, in use, or unknown."""


class JournalError(HallError):
    """A log does not have its form, or a deed in it fails."""
