"""Labels: numbers of places that show how many roads lie between two of them at least."""

from pressnotes.errors import NoPaper
from pressnotes.kinds import is_number, is_tuple_of
from pressnotes.offices import places_of
from pressnotes.reach import rows_from


def is_label(thing, place):
    """Whether it is a tuple of this place and a NUMBER."""
    return is_tuple_of(thing, 2) and thing[0] == place and is_number(thing[1])


def is_labels_like(office, thing):
    """Whether it has a NUMBER for each place of the office, in order, whatever the roads."""
    places = places_of(office)
    if not is_tuple_of(thing, len(places)):
        return False
    return all(is_label(label, place) for label, place in zip(thing, places))


def lets_labels(office, one, other, thing):
    """The NUMBER that LABELS show; any other thing is refused."""
    if not is_labels_like(office, thing):
        raise NoPaper("shape", -1)
    numbers = dict(thing)
    for k, (start, end) in enumerate(office[1]):
        if numbers[end] > numbers[start] + 1:
            raise NoPaper("road", k)
    return numbers[other] - numbers[one]


def labels_of(office, one, other):
    """LABELS that show how FAR the other is, None where the one doesn't come to it."""
    rows = rows_from(office, one)
    if other not in rows:
        return None
    places = places_of(office)
    # A place that the one doesn't come to may have roads to those it does: it is told further off than all of them.
    return tuple([(place, len(rows[place]) if place in rows else len(places) + 1) for place in places])
