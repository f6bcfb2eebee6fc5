"""The refusals: one class for each."""


class VerseError(ValueError):
    """Any refusal."""


class BadRules(VerseError):
    """A rule book is otherwise than rule books are."""


class NoKind(VerseError):
    """A number is no kind of the rule book."""


class TooLong(VerseError):
    """A row has more verses than the size."""


class NoNumber(VerseError):
    """No sheet that goes on has this number."""


class NoSheet(VerseError):
    """A list is none of the sheets that go on."""


class NotFull(VerseError):
    """A row has fewer verses than the size."""


class BadCosts(VerseError):
    """Costs are otherwise than costs are."""


class NotFree(VerseError):
    """A rule book has bars or dues."""


class Unlike(VerseError):
    """Two rule books differ in size or in the count of kinds."""


class BadBeat(VerseError):
    """A beat is none of 2 to 5."""


class BadName(VerseError):
    """A text is no name."""


class Known(VerseError):
    """A sheet of this name is there."""


class NoName(VerseError):
    """No sheet of this name is there."""


class Many(VerseError):
    """The house has as many sheets as it may have."""


class Whole(VerseError):
    """The sheet is whole."""


class SamePoet(VerseError):
    """The poet wrote the sheet's last verse."""


class Stuck(VerseError):
    """No whole sheet would go on."""


class Turned(VerseError):
    """What is asked for lies behind a turned page."""


class NoPlace(VerseError):
    """No verse is at this place."""


class NothingLeft(VerseError):
    """Nothing is there to take back or to do again."""


class Broken(VerseError):
    """A verse of the row breaks a rule: its place and the word for it."""

    def __init__(self, place, word):
        self.place = place
        self.word = word


class Stranded(VerseError):
    """The sheet of this name could not be ended under the new rule book."""

    def __init__(self, name):
        self.name = name


class BadRow(VerseError):
    """The row of a text with this number is wrong."""

    def __init__(self, at):
        self.at = at
