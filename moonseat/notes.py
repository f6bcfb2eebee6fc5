"""Texts: rule books and houses, written in rows and read back."""

from moonseat.errors import BadRow, BadRules, VerseError
from moonseat.house import House
from moonseat.rules import MOST_SIZE, Rules

MOST_FIGURES = 4
PARTS = ("kind", "shun", "bar", "due")
FORMS = {
    "begin": ("name",),
    "offer": ("name", "name", "number"),
    "take": ("name",),
    "amend": ("name", "number", "number"),
    "turn": ("name",),
    "fork": ("name", "name"),
    "drop": ("name",),
}


def row_text(word, things):
    """A row: the word and its things with one blank between."""
    return " ".join([word] + [str(thing) for thing in things])


def rules_text(rules):
    """The text of a rule book."""
    rows = [f"size {rules.size}"]
    lists = (rules.kinds(), rules.shuns(), rules.bars(), rules.dues())
    for word, triples in zip(PARTS, lists):
        rows += [row_text(word, triple) for triple in triples]
    return "\n".join(rows)


def is_number(text):
    """Whether a number is written as numbers are."""
    if not 1 <= len(text) <= MOST_FIGURES or not all(["0" <= sign <= "9" for sign in text]):
        return False
    return text == "0" or text[0] != "0"


def read_size(row):
    """The size that the first row tells, or None where the row is wrong."""
    word, blank, number = row.partition(" ")
    if word != "size" or not is_number(number) or not 1 <= int(number) <= MOST_SIZE:
        return None
    return int(number)


def read_part(row):
    """Which list a row goes on with, and its triple, or None where it isn't of that form."""
    word, *numbers = row.split(" ")
    if word not in PARTS or len(numbers) != 3 or not all([is_number(number) for number in numbers]):
        return None
    return (PARTS.index(word), tuple([int(number) for number in numbers]))


def with_row(size, lists, row):
    """The rule book with one row more, its triple put into the lists, or None where the row is wrong there."""
    part = read_part(row)
    if part is None:
        return None
    at, triple = part
    # Once a later list has begun, an earlier one can't go on.
    if any(lists[at + 1:]):
        return None
    lists[at].append(triple)
    # With each right row behind the size the rows up to it are a rule book by themselves.
    try:
        return Rules(size, lists[0], lists[1], lists[2], lists[3])
    except BadRules:
        return None


def read_rules(text):
    """The rule book of a text."""
    rows = text.split("\n")
    size = read_size(rows[0])
    if size is None:
        raise BadRow(0)
    lists = [[], [], [], []]
    rules = None
    for at, row in enumerate(rows[1:], start=1):
        rules = with_row(size, lists, row)
        if rules is None:
            raise BadRow(at)
    if rules is None:
        raise BadRow(len(rows))
    return rules


def in_one_row(rules):
    """The text of a rule book within a row."""
    return rules_text(rules).replace("\n", ";")


def deed_text(deed):
    """The row of a deed."""
    word, *things = deed
    if word == "change":
        return row_text(word, [in_one_row(deed[1])])
    return row_text(word, things)


def house_text(house):
    """The text of a house."""
    rows = [row_text("open", [in_one_row(house.first())])]
    rows += [deed_text(deed) for deed in house.deeds()]
    return "\n".join(rows)


def read_book(row, wanted):
    """The rule book of a row that begins with the wanted word, or None where the row is wrong."""
    word, blank, text = row.partition(" ")
    if word != wanted:
        return None
    try:
        return read_rules(text.replace(";", "\n"))
    except BadRow:
        return None


def read_thing(form, text):
    """A thing of a deed, or None where a number isn't written as numbers are."""
    if form == "name":
        return text
    if is_number(text):
        return int(text)
    return None


def read_deed(row):
    """The deed of a row, or None where the row is of no deed's form."""
    word, *texts = row.split(" ")
    if word == "change":
        things = [read_book(row, word)]
    elif word in FORMS and len(texts) == len(FORMS[word]):
        things = [read_thing(form, text) for form, text in zip(FORMS[word], texts)]
    else:
        return None
    if None in things:
        return None
    return tuple([word] + things)


def perform(house, deed):
    """Do the deed in the house."""
    word = deed[0]
    if word == "begin":
        house.begin(deed[1])
    elif word == "offer":
        house.offer(deed[1], deed[2], deed[3])
    elif word == "take":
        house.take(deed[1])
    elif word == "amend":
        house.amend(deed[1], deed[2], deed[3])
    elif word == "turn":
        house.turn(deed[1])
    elif word == "fork":
        house.fork(deed[1], deed[2])
    elif word == "drop":
        house.drop(deed[1])
    else:
        house.change(deed[1])


def read_house(text):
    """The house of a text."""
    rows = text.split("\n")
    rules = read_book(rows[0], "open")
    if rules is None:
        raise BadRow(0)
    house = House(rules)
    for at, row in enumerate(rows[1:], start=1):
        deed = read_deed(row)
        if deed is None:
            raise BadRow(at)
        try:
            perform(house, deed)
        except VerseError:
            raise BadRow(at) from None
    return house
