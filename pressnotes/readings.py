"""Readings: texts read as the runs, rows, pages and books that they write."""

from pressnotes.errors import NoText
from pressnotes.offices import places_of
from pressnotes.pages import is_named_runs
from pressnotes.words import name_in, number_in, row_in, runs_in

# What stands behind the word of a deed, word by word.
DEEDS = {
    "move": ("start", "end", "runs"), "bag": ("bag start", "end", "many"), "read": ("name", "runs"),
    "count": ("place", "counted"), "void": ("name",),
}


def refuse_words(thing, words):
    """Refuses a text that isn't one word alone, which writes the thing, no None."""
    if thing is None:
        raise NoText(0, 0)
    if len(words) > 1:
        raise NoText(0, 1)


def read_runs(text):
    """The RUNS that the text writes."""
    words = text.split(" ")
    runs = runs_in(words[0])
    refuse_words(runs, words)
    return runs


def read_row_text(text):
    """The ROW that the text writes."""
    words = text.split(" ")
    row = row_in(words[0])
    refuse_words(row, words)
    return row


def kind_due(things):
    """The kind of what stands behind the things that were read of a page; None behind its end."""
    if len(things) == 0:
        return "name"
    if len(things) == 1:
        return "deed"
    kinds = DEEDS[things[1]]
    at = len(things) - 2
    return kinds[at] if at < len(kinds) else None


def runs_there(office, word):
    """The RUNS that the word writes, where a move or a read can have them."""
    runs = runs_in(word)
    return runs if is_named_runs(office, runs) else None


def is_place_there(office, kind, ahead, word):
    """Whether the word can stand as a place of this kind, behind the thing ahead."""
    if kind == "end":
        return (ahead, word) in office[1]
    if kind == "place":
        return word in places_of(office) and word != "none"
    is_start = word in [start for start, end in office[1]]
    return is_start and (kind == "start" or word != "none")


def thing_in(office, things, word):
    """What the word writes behind the things that were read of a page; None where it can't stand there."""
    kind = kind_due(things)
    if kind is None:
        return None
    if kind == "name":
        return name_in(word)
    if kind == "deed":
        return word if word in DEEDS else None
    if kind == "runs":
        return runs_there(office, word)
    if kind == "many":
        return number_in(word, 1, 10 ** 9)
    if kind == "counted":
        return number_in(word, 0, 10 ** 12)
    return word if is_place_there(office, kind, things[-1], word) else None


def page_in(office, row, text, last):
    """The page that the text writes, of this row of a book; last is the name of the row ahead, or None."""
    things = []
    for k, word in enumerate(text.split(" ")):
        thing = thing_in(office, things, word)
        if thing is None or k == 0 and last is not None and thing <= last:
            raise NoText(row, k)
        things.append(thing)
    if kind_due(things) is not None:
        raise NoText(row, len(things))
    return (things[0], tuple(things[1:]))


def read_page(office, text):
    """The page of the office that the text writes."""
    return page_in(office, 0, text, None)


def read_book(office, rows):
    """The BOOK of the office that the texts write, page by page."""
    pages = []
    last = None
    for row, text in enumerate(rows):
        page = page_in(office, row, text, last)
        pages.append(page)
        last = page[0]
    return tuple(pages)
