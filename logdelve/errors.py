"""All errors of the program, each kind of failure with a class of its own."""


class LogError(ValueError):
    """Something that was handed in, or asked for, is refused."""


class BadText(LogError):
    """A text is not written as it should be; at is the place where it goes wrong."""

    def __init__(self, at=None):
        self.at = at


class BadTerm(LogError):
    """A term asks for fields that are not there or joins sorts that don't fit."""


class BadStage(LogError):
    """A stage of a question is wrong; at is its number, from 0."""

    def __init__(self, at=None):
        self.at = at


class BadField(LogError):
    """The field called name was not told, or has a value of another sort."""

    def __init__(self, name=None):
        self.name = name


class BadNumber(LogError):
    """A row's number is below 0."""


class BadTime(LogError):
    """A floor would be lower than the one that stands."""


class BadSize(LogError):
    """Pieces can't have this size."""


class BadName(LogError):
    """A text is no name, or no sort where a sort is wanted."""


class Taken(LogError):
    """What is called name is there already."""

    def __init__(self, name=None):
        self.name = name


class Unlike(LogError):
    """Another row of that source and number is kept: row."""

    def __init__(self, row=None):
        self.row = row


class Struck(LogError):
    """The row of that source and number was struck for good."""


class Held(LogError):
    """The hold called name keeps the source's rows."""

    def __init__(self, name=None):
        self.name = name


class InUse(LogError):
    """The question called name leans on what should go."""

    def __init__(self, name=None):
        self.name = name


class Ring(LogError):
    """A question would lean on itself; names is the tuple of those on the way."""

    def __init__(self, names=()):
        self.names = names


class Breaks(LogError):
    """The question called name could not be checked any more."""

    def __init__(self, name=None):
        self.name = name


class TooHard(LogError):
    """Two sifts are not of the simple form that can be compared."""


class NothingLeft(LogError):
    """There is no deed to take back or to do again."""


class Busy(LogError):
    """The store is at work."""


class NotThere(LookupError):
    """Something that was asked for is not there."""


class NoSource(NotThere):
    """There is no such source."""


class NoRow(NotThere):
    """There is no such row."""


class NoName(NotThere):
    """There is no question of that name."""


class NoHold(NotThere):
    """There is no hold of that name."""


class NoIndex(NotThere):
    """The field has no index."""


class NoPiece(NotThere):
    """There is no piece at that place."""
