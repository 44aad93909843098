"""The errors of the package. Each keeps what it is given, the objects themselves, under the names of its signature."""


class SoldError(ValueError):
    """What every error of the package is; it is raised nowhere itself."""


class Wrong(SoldError):
    """An argument is not as described; place is its place, from 0."""

    def __init__(self, place):
        self.place = place


class NoText(SoldError):
    """A text shows nothing: column is the word of the line that cannot stand there."""

    def __init__(self, line, column):
        self.line = line
        self.column = column


class NotFounded(SoldError):
    """In the firm with this name no person has shares alone."""

    def __init__(self, name):
        self.name = name


class Circle(SoldError):
    """The firms with these names hold dues of one another in a circle."""

    def __init__(self, names):
        self.names = names


class TooMany(SoldError):
    """There are more than the most that are looked at."""

    def __init__(self, most):
        self.most = most


class NoPrice(SoldError):
    """A round has no price."""


class NoDeed(SoldError):
    """The entry with this index cannot be done."""

    def __init__(self, index):
        self.index = index


class NoCommand(SoldError):
    """The line is no command."""

    def __init__(self, line):
        self.line = line


class Nothing(SoldError):
    """There is nothing to be taken back."""
