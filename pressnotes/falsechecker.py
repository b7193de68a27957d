"""The checker of papers of falseness: two pages, or one, by which no walk of a note suits."""

from pressnotes.cuts import is_set, lets_cut
from pressnotes.errors import NoPaper
from pressnotes.kinds import is_tuple_of
from pressnotes.pages import is_name
from pressnotes.steps import steps


def is_road_paper(office, thing):
    """Whether it is a ("road", p, q, S) by kinds."""
    if not is_tuple_of(thing, 4) or thing[0] != "road":
        return False
    word, first, second, places = thing
    return (first is None or is_name(first)) and is_name(second) and is_set(office, places)


def is_seal_paper(thing):
    """Whether it is a ("seal", q, p) by kinds."""
    if not is_tuple_of(thing, 3) or thing[0] != "seal":
        return False
    return is_name(thing[1]) and is_name(thing[2]) and thing[1] != thing[2]


def is_early_paper(thing):
    """Whether it is an ("early", q) by kinds."""
    return is_tuple_of(thing, 2) and thing[0] == "early" and is_name(thing[1])


def is_read_step(step):
    """Whether a read tells the step: the moment of a move is its own name, that of a read never is."""
    return step[0] != step[3]


def steps_of_paper(told, thing):
    """Those of the note's steps that the pages named by the paper tell, from the left."""
    by_names = {step[3]: step for step in told}
    # Behind the word stand two names or one, None perhaps in the place of the first; the places of a road come later.
    names = [name for name in thing[1:3] if name is not None]
    for k, name in enumerate(names):
        if name not in by_names:
            raise NoPaper("page", k)
        if k == 0 and thing[0] != "road" and not is_read_step(by_names[name]):
            raise NoPaper("page", k)
    return [by_names[name] for name in names]


def is_between(moment, first, second):
    """Whether the moment is behind the first one and ahead of the second."""
    return first < moment < second


def is_early(step):
    """Whether the read that tells the step is ahead of its bag."""
    return step[3] < step[0]


def is_in_seal(step, other):
    """Whether the other step's moment or name stands in the seal of a read's step, or both have one moment."""
    bag = step[0]
    name = step[3]
    # A move can't have the bag's name, so only another read of the bag has its moment.
    return other[0] == bag or is_between(other[0], bag, name) or is_between(other[3], bag, name)


def look_at_road(office, told, places):
    """Refuses the steps of p, perhaps none, and of q where the places don't bar the way from the one to the other."""
    start = "none"
    if len(told) == 2:
        if told[0][0] >= told[1][0]:
            raise NoPaper("order", 0)
        start = told[0][2]
    lets_cut(office, start, told[-1][1], places)


def lets_false(office, book, note, thing):
    """True of a PAPER of falseness of the note; any other thing is refused."""
    if not (is_road_paper(office, thing) or is_seal_paper(thing) or is_early_paper(thing)):
        raise NoPaper("shape", -1)
    word = thing[0]
    told = steps_of_paper(steps(book, note), thing)
    if word == "road":
        look_at_road(office, told, thing[3])
    elif word == "seal" and not is_in_seal(told[0], told[1]):
        raise NoPaper("order", 0)
    elif word == "early" and not is_early(told[0]):
        raise NoPaper("order", 0)
    return True
