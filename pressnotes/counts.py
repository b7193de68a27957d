"""Counts: how far what was counted at a place is from what the pages brought there, and papers of it."""

from pressnotes.balances import traffic
from pressnotes.books import counted_pages
from pressnotes.errors import NoPaper
from pressnotes.pages import is_numbered


def counts_at(book, place):
    """The counted counts of the place: how many were counted, by their names, rising."""
    return {name: deed[2] for name, deed in counted_pages(book) if deed[0] == "count" and deed[1] == place}


def offs(book, place):
    """The counted counts of the place with their OFFS."""
    passing = traffic(book, place)
    said = counts_at(book, place)
    return [(name, said[name] - sum(many for at, many in passing if at < name)) for name in said]


def off_paper(book, place, one, other):
    """What each counted move and bag between two counts, or from the beginning on, brings to the place or takes."""
    return tuple([(name, many) for name, many in traffic(book, place) if (one is None or one < name) and name < other])


def refuse_parts(book, due, thing):
    """Refuses parts that aren't just what is due, in order."""
    for k, (name, many) in enumerate(thing):
        if name not in due or k > 0 and name <= thing[k - 1][0]:
            raise NoPaper("page", k)
        if many != due[name]:
            raise NoPaper("many", k)
    told = [name for name, many in thing]
    for k, (name, deed) in enumerate(book):
        if name in due and name not in told:
            raise NoPaper("lacks", k)


def lets_offs(book, place, one, other, thing):
    """How many notes at least came or went between two counts untold, by an OFF PAPER; any other thing is refused."""
    if not is_numbered(thing):
        raise NoPaper("shape", -1)
    refuse_parts(book, dict(off_paper(book, place, one, other)), thing)
    said = counts_at(book, place)
    # At the beginning nothing was there.
    first = 0 if one is None else said[one]
    return abs(said[other] - first - sum(many for name, many in thing))


def first_off(book, place):
    """The names of the first two neighbours among the counts of the place whose OFFS are unlike, or None."""
    last = None
    last_off = 0
    for name, off in offs(book, place):
        if off != last_off:
            return (last, name)
        last = name
    return None
