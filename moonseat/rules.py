"""Rule books: what a sheet must keep to."""

from moonseat.errors import BadRules

MOST_SIZE = 30
MOST_KINDS = 4
MOST_SHUNS = 20
MOST_BARS = 12
MOST_DUES = 3
MOST_RUN = 4
MOST_REST = 4
MOST_FAR = 2


def fits_kind(row):
    """Whether the row is a triple (least, most, rest)."""
    if len(row) != 3:
        return False
    least, most, rest = row
    return 1 <= least <= most <= MOST_RUN and 0 <= rest <= MOST_REST


def fits_shun(row, many):
    """Whether the row is a triple (one, other, far) over so many kinds."""
    if len(row) != 3:
        return False
    one, other, far = row
    return 0 <= one < many and 0 <= other < many and 1 <= far <= MOST_FAR


def fits_span(row, many, size):
    """Whether the row is a triple (kind, first, last), as bars and dues are."""
    if len(row) != 3:
        return False
    kind, first, last = row
    return 0 <= kind < many and 1 <= first <= last <= size


def fits_counts(size, kinds, shuns, bars, dues):
    """Whether the size, and how many there are of each, lie within their bounds."""
    if not 1 <= size <= MOST_SIZE or not 1 <= len(kinds) <= MOST_KINDS:
        return False
    return len(shuns) <= MOST_SHUNS and len(bars) <= MOST_BARS and len(dues) <= MOST_DUES


def fits_rows(size, kinds, shuns, bars, dues):
    """Whether each triple is as it may be."""
    many = len(kinds)
    if not all([fits_kind(row) for row in kinds]):
        return False
    if not all([fits_shun(row, many) for row in shuns]):
        return False
    return all([fits_span(row, many, size) for row in bars + dues])


class Rules:
    """A rule book; it never changes.

    The rows are kept as tuples, so that no list behind a call is shared with it.
    """

    def __init__(self, size, kinds, shuns, bars, dues):
        if not fits_counts(size, kinds, shuns, bars, dues):
            raise BadRules("the size or a count lies beyond its bounds")
        if not fits_rows(size, kinds, shuns, bars, dues):
            raise BadRules("a triple is otherwise than it may be")
        self.size = size
        self.kind_rows = tuple(kinds)
        self.shun_rows = tuple(shuns)
        self.bar_rows = tuple(bars)
        self.due_rows = tuple(dues)

    def kinds(self):
        """The triples (least, most, rest), one for each kind."""
        return list(self.kind_rows)

    def shuns(self):
        """The triples (one, other, far)."""
        return list(self.shun_rows)

    def bars(self):
        """The triples (kind, first, last) of the bars."""
        return list(self.bar_rows)

    def dues(self):
        """The triples (kind, first, last) of the dues."""
        return list(self.due_rows)

    def many(self):
        """The count of kinds."""
        return len(self.kind_rows)
