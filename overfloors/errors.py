"""The errors of the package, each made from its fields and having them as attributes."""


class FloorError(ValueError):
    """Stands above all errors of the package."""


class BadNumber(FloorError):
    """A value that is not the number that is asked for, or a number that does not serve here."""

    def __init__(self, value):
        self.value = value


class BadPoint(FloorError):
    """A value that is not the point, or the object that stands on points, that is asked for."""

    def __init__(self, value):
        self.value = value


class Flat(FloorError):
    """All points lie on one line with (0, 0), where two of them must not."""


class TooMany(FloorError):
    """There are more things than the most that is allowed."""

    def __init__(self, most):
        self.most = most


class TooFar(FloorError):
    """A number that lies beyond what is looked at."""

    def __init__(self, number):
        self.number = number


class NoSuch(FloorError):
    """There is no item of this number."""

    def __init__(self, number):
        self.number = number


class NotWithin(FloorError):
    """A lattice does not lie within another one."""


class Apart(FloorError):
    """Layers have no common point, which the bar proves."""

    def __init__(self, bar):
        self.bar = bar


class NotPositive(FloorError):
    """Three integers that do not make a ground, since some length would not be above 0."""

    def __init__(self, a, b, c):
        self.a = a
        self.b = b
        self.c = c


class NotPlain(FloorError):
    """A ground that is not plain."""


class NoMarks(FloorError):
    """A tile without marks, or with a letter without marks."""


class NoLetter(FloorError):
    """A value that is none of the letters that stand here."""

    def __init__(self, letter):
        self.letter = letter


class Clash(FloorError):
    """Two letters at one place of a tile."""

    def __init__(self, letter, other):
        self.letter = letter
        self.other = other


class BadLetter(FloorError):
    """A value that is no letter."""

    def __init__(self, value):
        self.value = value


class Overlap(FloorError):
    """Two layers of a floor, told by their indexes, that have a point in common."""

    def __init__(self, first, second):
        self.first = first
        self.second = second


class NoWidth(FloorError):
    """A corridor whose lower bound is not below the upper one."""


class BadText(FloorError):
    """A text with a word, told by its index, that cannot stand there."""

    def __init__(self, index):
        self.index = index


class NoFloor(FloorError):
    """There is no floor of this name."""

    def __init__(self, name):
        self.name = name


class BadName(FloorError):
    """A value that is no name."""

    def __init__(self, value):
        self.value = value


class Taken(FloorError):
    """A name that stands for a promise already."""

    def __init__(self, name):
        self.name = name


class NoPromise(FloorError):
    """There is no promise of this name."""

    def __init__(self, name):
        self.name = name


class Barred(FloorError):
    """A deed that would break the promises with these names."""

    def __init__(self, words):
        self.words = words


class NothingToUndo(FloorError):
    """There is no deed to take back."""
