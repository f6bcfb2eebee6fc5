"""The house: sheets by names, and the deeds by which they grow, each of which can be taken back."""

from moonseat.ahead import can_be_ended, kinds_on, onward, ways
from moonseat.errors import BadName, Broken, Known, Many, NoKind, NoName, NoPlace, NothingLeft, SamePoet
from moonseat.errors import Stranded, Stuck, TooLong, Turned, Whole
from moonseat.sheets import stand_of

MOST_SHEETS = 8
MOST_LETTERS = 8


def check_name(text):
    """Refuse what is no name of a sheet or a poet."""
    if not 1 <= len(text) <= MOST_LETTERS or not all(["a" <= sign <= "z" for sign in text]):
        raise BadName("a name is 1 to 8 small letters")


def row_of(verses):
    """The kinds of the verses, without their poets."""
    return [kind for poet, kind in verses]


def would_end(rules, known, row):
    """Whether the row, of whatever kinds and length, stands under the rule book and can be ended."""
    try:
        stand = stand_of(rules, row)
    except (NoKind, TooLong, Broken):
        return False
    return can_be_ended(rules, stand, known)


class House:
    """A rule book, and sheets by names in the order in which they were begun or forked.

    What is there now is a tuple of the rule book, a dict of what is known of its
    stands (so that nothing is sought twice), and a dict with the verses, pairs
    (poet, kind), and the count of turned ones for each name. A deed makes a new
    tuple and a new dict of sheets and never changes an old one, so that taking a
    deed back is to go by the old ones again, and twins can share them.
    """

    def __init__(self, rules):
        self.opened = rules
        self.now = (rules, {}, {})
        # Pairs of a deed and what was there ahead of it, or, for those taken back, behind it.
        self.done = []
        self.undone = []

    def sheet(self, name):
        """The verses of the sheet and how many of them are turned."""
        sheets = self.now[2]
        if name not in sheets:
            raise NoName("no sheet has this name")
        return sheets[name]

    def row(self, name):
        """The kinds of the sheet's verses, a new list."""
        return row_of(self.sheet(name)[0])

    def check_new(self, name):
        """Refuse a name that no new sheet can get."""
        check_name(name)
        if name in self.now[2]:
            raise Known("a sheet has this name")
        if len(self.now[2]) >= MOST_SHEETS:
            raise Many("the house has 8 sheets")

    def check_ends(self, verses):
        """Refuse verses that don't stand or can't be ended."""
        rules, known, sheets = self.now
        stand = stand_of(rules, row_of(verses))
        if not can_be_ended(rules, stand, known):
            raise Stuck("no whole sheet goes on from the row")

    def do(self, deed, after):
        """Do a deed that isn't refused: behind it this is there."""
        self.done.append((deed, self.now))
        self.undone = []
        self.now = after

    def put(self, deed, name, verses, count):
        """Do a deed behind which a sheet has these verses, so many of them turned."""
        rules, known, sheets = self.now
        after = dict(sheets)
        after[name] = (verses, count)
        self.do(deed, (rules, known, after))

    def begin(self, name):
        """A new sheet without verses."""
        self.check_new(name)
        self.check_ends(())
        self.put(("begin", name), name, (), 0)

    def offer(self, name, poet, kind):
        """One verse more."""
        verses, count = self.sheet(name)
        check_name(poet)
        if len(verses) == self.now[0].size:
            raise Whole("the sheet is whole")
        if verses and verses[-1][0] == poet:
            raise SamePoet("the poet wrote the last verse")
        longer = verses + ((poet, kind),)
        self.check_ends(longer)
        self.put(("offer", name, poet, kind), name, longer, count)

    def take(self, name):
        """The last verse is taken back."""
        verses, count = self.sheet(name)
        if len(verses) == count:
            raise Turned("no verse is left that isn't turned")
        self.put(("take", name), name, verses[:-1], count)

    def amend(self, name, place, kind):
        """The verse at the place gets this kind."""
        verses, count = self.sheet(name)
        if not 1 <= place <= len(verses):
            raise NoPlace("no verse is at this place")
        if place <= count:
            raise Turned("the verse is turned")
        poet = verses[place - 1][0]
        amended = verses[:place - 1] + ((poet, kind),) + verses[place:]
        self.check_ends(amended)
        self.put(("amend", name, place, kind), name, amended, count)

    def turn(self, name):
        """All verses of the sheet lie behind turned pages from now on."""
        verses, count = self.sheet(name)
        if len(verses) == count:
            raise Turned("no verse is left that isn't turned")
        self.put(("turn", name), name, verses, len(verses))

    def fork(self, name, new):
        """A new sheet that is as the sheet is now."""
        verses, count = self.sheet(name)
        self.check_new(new)
        self.put(("fork", name, new), new, verses, count)

    def drop(self, name):
        """The sheet is gone."""
        self.sheet(name)
        rules, known, sheets = self.now
        left = {other: sheets[other] for other in sheets if other != name}
        self.do(("drop", name), (rules, known, left))

    def change(self, rules):
        """Another rule book from now on."""
        sheets = self.now[2]
        # What was known hangs on the old book.
        known = {}
        for name, (verses, count) in sheets.items():
            if not would_end(rules, known, row_of(verses)):
                raise Stranded(name)
        self.do(("change", rules), (rules, known, sheets))

    def back(self):
        """Take the last deed back."""
        if not self.done:
            raise NothingLeft("there is no deed to take back")
        deed, ahead = self.done.pop()
        self.undone.append((deed, self.now))
        self.now = ahead

    def again(self):
        """Do again what was taken back last."""
        if not self.undone:
            raise NothingLeft("there is no deed to do again")
        deed, behind = self.undone.pop()
        self.done.append((deed, self.now))
        self.now = behind

    def deeds(self):
        """The deeds that are done and not taken back, the eldest first."""
        return [deed for deed, ahead in self.done]

    def rules(self):
        """The rule book now."""
        return self.now[0]

    def first(self):
        """The rule book with which the house was opened."""
        return self.opened

    def names(self):
        """The names of the sheets, in their order."""
        return list(self.now[2])

    def verses(self, name):
        """The pairs (poet, kind) of the sheet."""
        return list(self.sheet(name)[0])

    def turned(self, name):
        """How many verses of the sheet lie behind turned pages."""
        return self.sheet(name)[1]

    def onwards(self, name):
        """How many whole sheets go on from the sheet."""
        return ways(self.now[0], self.row(name))

    def plan(self, name):
        """The least whole sheet that goes on from the sheet."""
        return onward(self.now[0], self.row(name))

    def fitting(self, name):
        """The kinds behind which a whole sheet still goes on."""
        return kinds_on(self.now[0], self.row(name))

    def twin(self):
        """Another house that stands alike, with all that can be taken back and done again."""
        other = House(self.opened)
        other.now = self.now
        other.done = list(self.done)
        other.undone = list(self.undone)
        return other
