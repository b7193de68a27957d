"""What is seen at a place: which notes, how many of each series, and what they are worth."""

from pressnotes.lasts import last_steps
from pressnotes.offices import worth_of
from pressnotes.runs import many_in, runs_of
from pressnotes.sets import of_series


def seen(book, place):
    """The RUNS of the notes whose last step leads to the place."""
    found = []
    for name, end, runs in last_steps(book):
        if end == place:
            found.extend(runs)
    return runs_of(found)


def seen_sums(office, book, place):
    """How many notes are seen at the place, for each series of the office."""
    here = seen(book, place)
    return tuple([(series, many_in(of_series(here, series))) for series, worth in office[0]])


def seen_worth(office, book, place):
    """What the notes seen at the place are worth together."""
    return sum(worth_of(office, series) * many for series, many in seen_sums(office, book, place))
