"""RUNS as sets of notes: put together, compared, taken apart."""

from pressnotes.runs import runs_of


def together(one, other):
    """The notes of one, of other, or of both."""
    return runs_of(list(one) + list(other))


def both(one, other):
    """The notes of one that are of other, too."""
    found = []
    at = 0
    beside = 0
    while at < len(one) and beside < len(other):
        series, low, high = one[at]
        name, start, end = other[beside]
        if series == name and max(low, start) < min(high, end):
            found.append((series, max(low, start), min(high, end)))
        # The run that ends first can have nothing in common with what comes later.
        if (series, high) <= (name, end):
            at += 1
        else:
            beside += 1
    return tuple(found)


def less(one, other):
    """The notes of one that aren't of other."""
    found = []
    at = 0
    for run in one:
        series, low, high = run
        # What ends ahead of this run is ahead of all later ones, too.
        while at < len(other) and (other[at][0], other[at][2]) <= (series, low):
            at += 1
        found.extend(what_is_left(run, other, at))
    return tuple(found)


def what_is_left(run, other, at):
    """The pieces of the run that aren't of other, of which at is the first that can reach into it."""
    series, low, high = run
    left = []
    while at < len(other) and other[at][0] == series and other[at][1] < high:
        if low < other[at][1]:
            left.append((series, low, other[at][1]))
        low = other[at][2]
        at += 1
    if low < high:
        left.append((series, low, high))
    return left


def is_within(one, other):
    """Whether each note of one is of other."""
    return less(one, other) == ()


def of_series(runs, series):
    """Those of the notes that are of the series."""
    return tuple([run for run in runs if run[0] == series])
