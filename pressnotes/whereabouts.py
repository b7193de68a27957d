"""Where a missing note can be: in a bag that nobody has read through, or at a place."""

from pressnotes.bags import supply_of
from pressnotes.books import counted_bags
from pressnotes.cuts import cut_of
from pressnotes.filling import poured, rows_of, store_of
from pressnotes.offices import places_of
from pressnotes.reach import road_row
from pressnotes.steps import told_place


def with_one_less(counts, name):
    """The counts, that of the name less one."""
    return {key: counts[key] - 1 if key == name else counts[key] for key in counts}


def bag_paper(office, book, store, note, bag):
    """Whether the note, which has a step, can be an unread one of the bag, and a paper that shows it."""
    stock, want, lies = store
    supply = supply_of(book, note)
    if bag < supply:
        return (False, ("late",))
    if bag not in want:
        return (False, ("spent",))
    cut = cut_of(office, told_place(book, note), counted_bags(book)[bag][1])
    if cut is not None:
        return (False, ("cut", cut))
    # With the note in the bag all else must be filled from what is left.
    given, tight = poured(with_one_less(stock, supply), with_one_less(want, bag), lies)
    if given is None:
        return (False, ("tight", tight))
    given[(supply, bag)] = given.get((supply, bag), 0) + 1
    return (True, ("in", rows_of(given)))


def place_paper(office, book, store, note, place):
    """Whether the note, which has a step, can be at the place and in no bag, and a paper that shows it."""
    stock, want, lies = store
    start = told_place(book, note)
    cut = cut_of(office, start, place)
    if cut is not None:
        return (False, ("cut", cut))
    # With the note in no bag all of them must be filled from what is left.
    given, tight = poured(with_one_less(stock, supply_of(book, note)), want, lies)
    if given is None:
        return (False, ("tight", tight))
    return (True, ("free", rows_of(given), road_row(office, start, place)))


def paper_by(office, book, store, note, answer):
    """Whether some world has the answer for the note, and a paper that shows it."""
    if supply_of(book, note) is None:
        return (answer == ("at", "none"), ("unmade",))
    if answer[0] == "bag":
        return bag_paper(office, book, store, note, answer[1])
    return place_paper(office, book, store, note, answer[1])


def can_be(office, book, note):
    """The answers that some world has for the note: bags by their names, then places."""
    store = store_of(office, book)
    answers = [("bag", name) for name in sorted(counted_bags(book))]
    answers.extend([("at", place) for place in places_of(office)])
    return [answer for answer in answers if paper_by(office, book, store, note, answer)[0]]


def where_paper(office, book, note, answer):
    """Whether some world has the answer for the note, and a paper that shows it."""
    return paper_by(office, book, store_of(office, book), note, answer)
