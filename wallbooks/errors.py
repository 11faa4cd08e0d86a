"""All errors of the package: each stands directly below WallError."""


class WallError(ValueError):
    """The base of all errors: it keeps what it was made with as value."""

    def __init__(self, value):
        self.value = value


class BadBook(WallError):
    """No text of a book: 0 for what is no string, otherwise the number of a line."""


class NoClient(WallError):
    """No client of the book."""


class NoKind(WallError):
    """No kind of the book."""


class BadRivals(WallError):
    """Two clients that cannot become rivals, or cannot cease to be rivals."""


class BadWord(WallError):
    """Neither "look" nor "write"."""


class BadRight(WallError):
    """A right that is there already, or one that is not there."""


class BadPairs(WallError):
    """No tuple of pairs of the book, none of them twice."""


class BadLot(WallError):
    """No lot of the book."""


class BadPair(WallError):
    """A pair that cannot be opened, or cannot be closed."""


class OtherBook(WallError):
    """No fence of an equal book."""


class BadStaff(WallError):
    """No staff of the book."""


class BadRun(WallError):
    """No run of the staff."""


class NotApart(WallError):
    """A fence that does not keep rivals apart: the staff and the run that show it."""


class TooMany(WallError):
    """More to be gone through than is promised: the limit."""


class BadOffers(WallError):
    """No offers by the book as it is."""


class BadClients(WallError):
    """No tuple of clients."""


class BadCases(WallError):
    """No cases of the clients."""


class NoneFits(WallError):
    """No rivalry fits: the number of the first case that leaves none."""


class BadRivalry(WallError):
    """No rivalry of the clients."""


class NoPerson(WallError):
    """No number of a person of the house."""


class Full(WallError):
    """No place for one more person or deed: how many there are."""


class NoRight(WallError):
    """A deed to which the person's kind has no right."""


class Rival(WallError):
    """A deed for a client whose rival the person holds."""


class Fenced(WallError):
    """A deed that the fence does not let."""


class Left(WallError):
    """A person who has left."""


class NothingToUndo(WallError):
    """No step stands that could be taken back."""


class NothingToRedo(WallError):
    """No step was taken back that could be done again."""


class NoTrial(WallError):
    """There is no block of a trial around the call."""


class BadJournal(WallError):
    """No journal: 0 for what is no string, otherwise the number of a line."""


class BadLine(WallError):
    """No line that a desk knows."""
