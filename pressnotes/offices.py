"""Offices: what the notes of each series are worth, and the roads between places."""

from pressnotes.kinds import is_number, is_tuple_of, is_word, rises


def is_worth(thing):
    """Whether it is a tuple of a series and its worth."""
    return is_tuple_of(thing, 2) and is_word(thing[0]) and is_number(thing[1]) and thing[1] >= 1


def is_road(thing):
    """Whether it is a tuple of two unlike places, the second not none."""
    if not (is_tuple_of(thing, 2) and is_word(thing[0]) and is_word(thing[1])):
        return False
    return thing[0] != thing[1] and thing[1] != "none"


def is_worths(thing):
    """Whether these are the worths of an office."""
    if not isinstance(thing, tuple) or len(thing) < 1 or not all(is_worth(row) for row in thing):
        return False
    return rises([series for series, worth in thing])


def is_roads(thing):
    """Whether these are ROADS."""
    if not isinstance(thing, tuple) or len(thing) < 1:
        return False
    return all(is_road(row) for row in thing) and rises(thing)


def is_office(thing):
    """Whether it is an OFFICE, of however many series and roads."""
    return is_tuple_of(thing, 2) and is_worths(thing[0]) and is_roads(thing[1])


def places_of(office):
    """The SET of the office's places, none always among them."""
    found = {"none"}
    for start, end in office[1]:
        found.add(start)
        found.add(end)
    return tuple(sorted(found))


def worth_of(office, series):
    """The worth of the series, 0 where the office hasn't it."""
    for name, worth in office[0]:
        if name == series:
            return worth
    return 0


def levels_of(office):
    """The unlike worths of the office, rising."""
    return sorted({worth for series, worth in office[0]})
