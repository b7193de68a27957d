"""Names and pages: what each deed of a page must be made of."""

from pressnotes.kinds import is_from_to, is_number, is_tuple_of, is_word
from pressnotes.offices import places_of, worth_of
from pressnotes.runs import is_runs


def is_name(thing):
    """Whether it is a NAME."""
    if not is_tuple_of(thing, 3):
        return False
    day, number, hand = thing
    return is_from_to(day, 0, 99999) and is_from_to(number, 0, 999) and is_word(hand)


def is_numbered(thing):
    """Whether it is a tuple of tuples of a NAME and a NUMBER."""
    if not isinstance(thing, tuple) or not all(is_tuple_of(pair, 2) for pair in thing):
        return False
    return all(is_name(name) and is_number(number) for name, number in thing)


def is_named_runs(office, thing):
    """Whether these are RUNS, not none, of the office's series."""
    if not is_runs(thing) or thing == ():
        return False
    return all(worth_of(office, run[0]) > 0 for run in thing)


def is_move(office, deed):
    """Whether the deed is a right move."""
    if not is_tuple_of(deed, 4):
        return False
    return (deed[1], deed[2]) in office[1] and is_named_runs(office, deed[3])


def is_bag(office, deed):
    """Whether the deed is a right bag."""
    if not is_tuple_of(deed, 4):
        return False
    return (deed[1], deed[2]) in office[1] and deed[1] != "none" and is_from_to(deed[3], 1, 1000000000)


def is_read(office, deed):
    """Whether the deed is a right read, whatever its name names."""
    return is_tuple_of(deed, 3) and is_name(deed[1]) and is_named_runs(office, deed[2])


def is_count(office, deed):
    """Whether the deed is a right count."""
    if not is_tuple_of(deed, 3):
        return False
    return deed[1] in places_of(office) and deed[1] != "none" and is_from_to(deed[2], 0, 10 ** 12)


def is_void(deed):
    """Whether the deed is a right void, whatever its name names."""
    return is_tuple_of(deed, 2) and is_name(deed[1])


def is_deed(office, thing):
    """Whether it is a deed of a page of the office."""
    if not isinstance(thing, tuple) or len(thing) < 1:
        return False
    if thing[0] == "move":
        return is_move(office, thing)
    if thing[0] == "bag":
        return is_bag(office, thing)
    if thing[0] == "read":
        return is_read(office, thing)
    if thing[0] == "count":
        return is_count(office, thing)
    return thing[0] == "void" and is_void(thing)


def is_page(office, thing):
    """Whether it is a PAGE of the office."""
    return is_tuple_of(thing, 2) and is_name(thing[0]) and is_deed(office, thing[1])
