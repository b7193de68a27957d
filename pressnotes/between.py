"""Between two steps of a note: where it can be, and papers that show it."""

from pressnotes.cuts import cut_of, is_set, lets_cut
from pressnotes.errors import NoPaper
from pressnotes.kinds import is_tuple_of
from pressnotes.offices import places_of
from pressnotes.reach import reach, road_row
from pressnotes.steps import steps


def ends_of(book, note, i):
    """BEGIN and END: the place to which the step ahead of i leads, and the one from which step i goes, or None."""
    told = steps(book, note)
    begin = told[i - 1][2] if i > 0 else "none"
    end = told[i][1] if i < len(told) else None
    return (begin, end)


def between(office, book, note, i):
    """The SET of the places at which the note can be ahead of step i and behind the one before it."""
    begin, end = ends_of(book, note, i)
    return tuple([place for place in reach(office, begin) if end is None or end in reach(office, place)])


def between_paper(office, book, note, i, place):
    """Whether the place is among these, and a paper that shows it."""
    begin, end = ends_of(book, note, i)
    cut = cut_of(office, begin, place)
    if cut is not None:
        return (False, ("out", cut))
    if end is None:
        return (True, ("at", road_row(office, begin, place), ()))
    cut = cut_of(office, place, end)
    if cut is not None:
        return (False, ("on", cut))
    return (True, ("at", road_row(office, begin, place), road_row(office, place, end)))


def is_row_like(office, thing):
    """Whether it is a tuple of places of the office, whatever the roads."""
    places = places_of(office)
    return isinstance(thing, tuple) and all(place in places for place in thing)


def is_at_paper(office, thing):
    """Whether it is an ("at", one, other) by kinds."""
    if not is_tuple_of(thing, 3) or thing[0] != "at":
        return False
    return is_row_like(office, thing[1]) and is_row_like(office, thing[2])


def is_set_paper(office, end, thing):
    """Whether it is an ("out", S), or an ("on", S) where there is an END, by kinds."""
    if not is_tuple_of(thing, 2) or not is_set(office, thing[1]):
        return False
    return thing[0] == "out" or thing[0] == "on" and end is not None


def row_fault(office, row, one, other):
    """The first place of the row that is none of its own in a ROW OF ROADS from one to other, or None."""
    for k, place in enumerate(row):
        if k == 0 and place != one:
            return k
        if k > 0 and (row[k - 1], place) not in office[1]:
            return k
    if not row or row[-1] != other:
        return len(row)
    return None


def end_fault(office, row, place, end):
    """The same of the row from the place to END; where there is no END the row must be void."""
    if end is not None:
        return row_fault(office, row, place, end)
    if row:
        return 0
    return None


def lets_between(office, book, note, i, place, thing):
    """The truth that a paper shows of the place; any other thing is refused."""
    begin, end = ends_of(book, note, i)
    if not (is_at_paper(office, thing) or is_set_paper(office, end, thing)):
        raise NoPaper("shape", -1)
    if thing[0] == "out":
        lets_cut(office, begin, place, thing[1])
        return False
    if thing[0] == "on":
        lets_cut(office, place, end, thing[1])
        return False
    fault = row_fault(office, thing[1], begin, place)
    if fault is not None:
        raise NoPaper("one", fault)
    fault = end_fault(office, thing[2], place, end)
    if fault is not None:
        raise NoPaper("other", fault)
    return True
