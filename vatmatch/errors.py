"""The refusals: each kind has a class of its own, all of them under DyeError alone."""


class DyeError(ValueError):
    """Any refusal."""


class NoNumber(DyeError):
    """A fraction would have the bottom 0."""


class NoMany(DyeError):
    """This is no number of base stuffs."""


class NoShade(DyeError):
    """This is no shade."""


class NoStuffs(DyeError):
    """These are no measures of each stuff."""


class NoBook(DyeError):
    """This is no book."""


class Fails(DyeError):
    """A book does not stand: the deed at this hour fails by this word."""

    def __init__(self, hour, word):
        self.hour = hour
        self.word = word


class NoHour(DyeError):
    """This is no hour, or none that will do."""


class NoName(DyeError):
    """Nothing of this name is there."""


class NoDeed(DyeError):
    """This is no deed."""


class NoBack(DyeError):
    """There is nothing to take back."""


class NoShelf(DyeError):
    """This is no shelf."""


class NoMeasures(DyeError):
    """This is no number of measures."""


class NoStep(DyeError):
    """This is no step of a scale."""


class TooLittle(DyeError):
    """There is not enough for a mixing."""


class NoWeights(DyeError):
    """These are no weights."""


class NoPrices(DyeError):
    """These are no prices."""


class NoVat(DyeError):
    """This is no vat."""


class NoBrim(DyeError):
    """This is no brim."""


class NoCloths(DyeError):
    """These are no cloths."""


class NoRow(DyeError):
    """This is no row that a desk takes."""
