"""Cuts: sets of places that no road leaves, which show that one place doesn't come to another."""

from pressnotes.errors import NoPaper
from pressnotes.kinds import rises
from pressnotes.offices import places_of
from pressnotes.reach import reach


def is_set(office, thing):
    """Whether it is a SET of places of the office."""
    places = places_of(office)
    return isinstance(thing, tuple) and all(place in places for place in thing) and rises(thing)


def lets_cut(office, one, other, thing):
    """True of a CUT of the one from the other; any other thing is refused."""
    if not is_set(office, thing):
        raise NoPaper("shape", -1)
    for k, (start, end) in enumerate(office[1]):
        if start in thing and end not in thing:
            raise NoPaper("leaves", k)
    if one not in thing:
        raise NoPaper("from", 0)
    if other in thing:
        raise NoPaper("to", 0)
    return True


def cut_of(office, one, other):
    """A CUT of the one from the other, None where the one comes to the other."""
    within = reach(office, one)
    if other in within:
        return None
    return within
