"""The checker of papers that tell whether a missing note can be in a bag or at a place."""

from pressnotes.bags import can_take, lying, stock_of, supply_of, wanted
from pressnotes.between import row_fault
from pressnotes.books import counted_bags
from pressnotes.cuts import lets_cut
from pressnotes.errors import NoPaper
from pressnotes.fillchecker import is_names, lets_filling, refuse_names
from pressnotes.steps import told_place

# How many things the papers have, by their words, and of which answers each can be, where the note has a step.
SIZES = (("unmade", 1), ("in", 2), ("free", 3), ("late", 1), ("spent", 1), ("cut", 2), ("tight", 2))
ANSWERS = {
    "in": ("bag",), "free": ("at",), "late": ("bag",), "spent": ("bag",), "cut": ("bag", "at"), "tight": ("bag", "at"),
}


def is_where_paper(thing):
    """Whether it begins with a paper's word and has as many things as such a paper."""
    return isinstance(thing, tuple) and len(thing) > 0 and (thing[0], len(thing)) in SIZES


def look_at_in(office, book, note, bag, rows):
    """Refuses what is no FILLING, and one whose rows give the bag no note of the note's supply."""
    lets_filling(office, book, rows)
    if (supply_of(book, note), bag) not in [row[:2] for row in rows]:
        raise NoPaper("given", -1)


def look_at_free(office, book, note, place, rows, way):
    """Refuses what is no FILLING, one that takes all notes of the note's supply, and a way that isn't one there."""
    lets_filling(office, book, rows)
    supply = supply_of(book, note)
    if sum(many for name, bag, many in rows if name == supply) >= stock_of(book)[supply]:
        raise NoPaper("given", -1)
    fault = 0
    if isinstance(way, tuple):
        fault = row_fault(office, way, told_place(book, note), place)
    if fault is not None:
        raise NoPaper("way", fault)


def look_at_cut(office, book, note, answer, places):
    """Refuses what is no CUT of the note's told place from the bag's from, or from the place."""
    end = answer[1]
    if answer[0] == "bag":
        end = counted_bags(book)[answer[1]][1]
    lets_cut(office, told_place(book, note), end, places)


def look_at_tight(office, book, note, answer, names):
    """Refuses what are no BAGS that want all the notes that they can take, those of the note's supply among them."""
    if not is_names(names):
        raise NoPaper("shape", -1)
    want = wanted(book)
    lies = lying(office, book)
    refuse_names([name for name in want if answer != ("bag", name)], names)
    supply = supply_of(book, note)
    if not any(supply in lies[name] for name in names):
        raise NoPaper("supply", -1)
    if sum(want[name] for name in names) != can_take(stock_of(book), lies, names):
        raise NoPaper("tight", -1)


def shown_of_made(office, book, note, answer, thing):
    """The truth that a paper shows of an answer for a note that has a step."""
    word = thing[0]
    if word == "in":
        look_at_in(office, book, note, answer[1], thing[1])
    elif word == "free":
        look_at_free(office, book, note, answer[1], thing[1], thing[2])
    elif word == "late" and supply_of(book, note) < answer[1]:
        raise NoPaper("late", -1)
    elif word == "spent" and answer[1] in wanted(book):
        raise NoPaper("spent", -1)
    elif word == "cut":
        look_at_cut(office, book, note, answer, thing[1])
    elif word == "tight":
        look_at_tight(office, book, note, answer, thing[1])
    return word == "in" or word == "free"


def lets_where(office, book, note, answer, thing):
    """The truth that a paper shows: whether some world has the answer for the note; any other thing is refused."""
    if not is_where_paper(thing):
        raise NoPaper("shape", -1)
    is_made = supply_of(book, note) is not None
    if is_made == (thing[0] == "unmade"):
        raise NoPaper("step", -1)
    if not is_made:
        return answer == ("at", "none")
    if answer[0] not in ANSWERS[thing[0]]:
        raise NoPaper("answer", -1)
    return shown_of_made(office, book, note, answer, thing)
