"""Notes, runs of notes, and RUNS: sets of notes written in one way."""

from pressnotes.errors import NoNumber
from pressnotes.kinds import is_from_to, is_tuple_of, is_word

# Each note's number is below this one.
NUMBERS = 1000000000


def is_note(thing):
    """Whether it is a NOTE."""
    return is_tuple_of(thing, 2) and is_word(thing[0]) and is_from_to(thing[1], 0, NUMBERS - 1)


def is_run(thing):
    """Whether it is a RUN."""
    if not is_tuple_of(thing, 3):
        return False
    series, low, high = thing
    return is_word(series) and is_from_to(low, 0, NUMBERS - 1) and is_from_to(high, low + 1, NUMBERS)


def is_runs(thing):
    """Whether it is RUNS, of however many."""
    if not isinstance(thing, tuple):
        return False
    if not all(is_run(run) for run in thing):
        return False
    return all(is_apart(thing[at - 1], thing[at]) for at in range(1, len(thing)))


def is_apart(run, later):
    """Whether later is behind run in RUNS: of a later series, or parted from it by a note at least."""
    if run[0] == later[0]:
        return run[2] < later[1]
    return run[0] < later[0]


def runs_of(some):
    """The RUNS that have just the notes of some runs, in whatever order these are."""
    found = []
    for run in sorted(some):
        if found and not is_apart(found[-1], run):
            series, low, high = found[-1]
            found[-1] = (series, low, max(high, run[2]))
        else:
            found.append(run)
    return tuple(found)


def many_in(runs):
    """How many notes the runs have."""
    return sum(high - low for series, low, high in runs)


def holds(runs, note):
    """Whether the note is of the runs."""
    return place_of(runs, note) is not None


def kth(runs, k):
    """The note at place k, from 0, of the runs laid one behind the other."""
    if k < 0:
        raise NoNumber(k)
    left = k
    for series, low, high in runs:
        if left < high - low:
            return (series, low + left)
        left -= high - low
    raise NoNumber(k)


def place_of(runs, note):
    """The first place of the note in the runs laid one behind the other, or None."""
    name, number = note
    ahead = 0
    for series, low, high in runs:
        if series == name and low <= number < high:
            return ahead + number - low
        ahead += high - low
    return None
