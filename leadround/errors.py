"""The refusals: one error class for each."""


class RowError(ValueError):
    pass


class BadRow(RowError):
    pass


class BadPlace(RowError):
    pass


class BadSigns(RowError):
    pass


class BadBase(RowError):
    pass


class BadFigures(RowError):
    pass


class BadFraction(RowError):
    pass


class BadText(RowError):
    pass
