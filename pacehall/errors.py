"""The refusals: all of them stand right under PaceError."""


class PaceError(ValueError):
    pass


class NoPlace(PaceError):
    pass


class NoStep(PaceError):
    pass


class NoCells(PaceError):
    pass


class NoView(PaceError):
    pass


class NoMove(PaceError):
    pass


class NoCount(PaceError):
    pass


class NoPair(PaceError):
    pass


class NoMost(PaceError):
    pass


class NoOrder(PaceError):
    pass


class NoDeed(PaceError):
    pass


class NoRow(PaceError):
    pass


# The refusals below hand their fields on as they are and write no words of them:
# a field may be whatever was handed in, and writing it out could fail.


class TooMany(PaceError):

    def __init__(self, number):
        PaceError.__init__(self, number)
        self.number = number


class NoShape(PaceError):

    def __init__(self, place, axis):
        PaceError.__init__(self, place, axis)
        self.place = place
        self.axis = axis


class Twice(PaceError):

    def __init__(self, one, other):
        PaceError.__init__(self, one, other)
        self.one = one
        self.other = other


class NoName(PaceError):

    def __init__(self, name):
        PaceError.__init__(self, name)
        self.name = name


class Known(PaceError):

    def __init__(self, name):
        PaceError.__init__(self, name)
        self.name = name
