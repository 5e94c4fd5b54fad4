"""The refusals: one class for each, all under FigureError."""


class FigureError(ValueError):
    pass


class NoFigures(FigureError):
    pass


class NoMachine(FigureError):
    pass


class NoPower(FigureError):
    pass


class TooWide(FigureError):
    pass


class TooGreat(FigureError):
    def __init__(self, most):
        FigureError.__init__(self, f"there are more than {most}")
        self.most = most


class NoText(FigureError):
    pass


class NoRow(FigureError):
    pass


class NoName(FigureError):
    pass


class NoSome(FigureError):
    pass
