"""A desk: a ledger that is told lines and answers each with a text."""

from pressnotes.balances import balance
from pressnotes.books import until
from pressnotes.counts import first_off, offs
from pressnotes.errors import NoLine, NoText
from pressnotes.falsehoods import false_runs
from pressnotes.gaps import unseen
from pressnotes.ledger import Ledger
from pressnotes.offices import is_office, places_of
from pressnotes.readings import read_page
from pressnotes.steps import told_place
from pressnotes.sums import seen, seen_worth
from pressnotes.texts import shown_book, shown_name, shown_runs
from pressnotes.whereabouts import can_be
from pressnotes.words import note_in, number_in

# What stands behind the first word of a line; behind that of a dated one a day may stand, too.
KINDS = {
    "back": (), "told": (), "then": ("k",), "book": (), "where": ("note",), "seen": ("place",), "worth": ("place",),
    "balance": ("place",), "offs": ("place",), "off": ("place",), "false": (), "unseen": (), "can": ("note",),
}
DATED = ("book", "where", "seen", "worth", "balance", "offs")


def office_in(words):
    """The OFFICE that two words, WORTHS and ROADS, write; None where they write none."""
    if len(words) != 2:
        return None
    worths = []
    for part in words[0].split(","):
        series, colon, figures = part.partition(":")
        worths.append((series, number_in(figures, 1, 1000000)))
    roads = []
    for part in words[1].split(","):
        start, sign, end = part.partition(">")
        roads.append((start, end))
    office = (tuple(worths), tuple(roads))
    if not is_office(office) or len(worths) > 4 or len(roads) > 16 or len(places_of(office)) > 9:
        return None
    return office


def thing_of_kind(office, kind, word):
    """What the word writes as a thing of the kind, None where it writes none."""
    if kind == "note":
        return note_in(word)
    if kind == "day":
        return number_in(word, 0, 99999)
    if kind == "k":
        return number_in(word, 0, 999)
    if word == "none" or word not in places_of(office):
        return None
    return word


def things_in(office, words):
    """What stands behind the first word of a line, a day last where it may have one; None where it is no line."""
    if words[0] not in KINDS:
        return None
    kinds = KINDS[words[0]]
    if words[0] in DATED and len(words) == len(kinds) + 2:
        kinds = kinds + ("day",)
    if len(words) != len(kinds) + 1:
        return None
    things = [thing_of_kind(office, kind, word) for kind, word in zip(kinds, words[1:])]
    if None in things:
        return None
    return things


def page_behind(office, line):
    """The page that stands behind the first word of a line."""
    word, blank, text = line.partition(" ")
    try:
        return read_page(office, text)
    except NoText:
        raise NoLine(line) from None


def parted(texts):
    """The texts parted by semicolons, a dash of none."""
    return "; ".join(texts) if texts else "-"


def shown_answer(answer):
    """What a note can be: in a bag, or at a place."""
    word, what = answer
    if word == "bag":
        return f"bag {shown_name(what)}"
    return f"at {what}"


def shown_off(pair):
    """The two counts between which the first fault lies."""
    if pair is None:
        return "none"
    one, other = pair
    first = "-" if one is None else shown_name(one)
    return f"{first} {shown_name(other)}"


def of_place(office, book, word, place):
    """The answer to a line that asks of a place."""
    if word == "seen":
        return shown_runs(seen(book, place))
    if word == "worth":
        return str(seen_worth(office, book, place))
    if word == "balance":
        return str(balance(book, place))
    if word == "offs":
        return parted([f"{shown_name(name)} {off}" for name, off in offs(book, place)])
    return shown_off(first_off(book, place))


def answer_of(office, book, word, things):
    """The answer to a line that asks of a book, by its first word and what stands behind it."""
    if word == "book":
        return parted(shown_book(book))
    if word == "false":
        return shown_runs(false_runs(office, book))
    if word == "unseen":
        return str(unseen(office, book))
    if word == "where":
        return told_place(book, things[0])
    if word == "can":
        return parted([shown_answer(answer) for answer in can_be(office, book, things[0])])
    return of_place(office, book, word, things[0])


class Desk:
    """A ledger, at first none, and the lines that it is told."""

    def __init__(self):
        self.ledger = None

    def say(self, line):
        """The answer to a line."""
        words = line.split(" ")
        if words[0] == "office":
            return self.begin(line, words)
        if self.ledger is None:
            raise NoLine(line)
        if words[0] == "tell":
            return self.ledger.tell(page_behind(self.ledger.office, line))
        things = things_in(self.ledger.office, words)
        if things is None:
            raise NoLine(line)
        return self.answer(words[0], things)

    def begin(self, line, words):
        """Begins a new ledger of the office that the line tells."""
        office = office_in(words[1:])
        if office is None:
            raise NoLine(line)
        self.ledger = Ledger(office)
        return "ok"

    def answer(self, word, things):
        """The answer to a line that is one, by its first word and what stands behind it."""
        if word == "back":
            return shown_name(self.ledger.back())
        if word == "told":
            return str(self.ledger.told())
        if word == "then":
            return parted(shown_book(self.ledger.then(things[0])))
        book = self.ledger.book()
        if len(things) > len(KINDS[word]):
            book = until(book, things[-1])
        return answer_of(self.ledger.office, book, word, things)
