"""The refusals, one class for each thing that can be wrong with what is handed in."""


class TipError(ValueError):
    """What is handed in is refused."""


class BadPlaces(TipError):
    """It is no count of places."""


class BadTies(TipError):
    """They are no ties of these places."""


class BadRow(TipError):
    """It is no row."""


class BadCounts(TipError):
    """They are no counts of ties."""


class BadNumber(TipError):
    """It is no number of a kind."""


class NoTip(TipError):
    """It is no tipweb."""
