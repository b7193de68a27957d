"""Rows: runs laid one behind the other, place by place."""

from pressnotes.errors import NoRow
from pressnotes.runs import NUMBERS, is_run, kth, many_in, runs_of


def is_row(thing):
    """Whether it is a ROW, of however many pieces."""
    return isinstance(thing, tuple) and len(thing) > 0 and all(is_run(piece) for piece in thing)


def places_in(row):
    """How many places the row has."""
    return many_in(row)


def row_at(row, k):
    """The note at place k, from 0."""
    return kth(row, k)


def with_places(row):
    """The pieces, each as (its first place, the place behind its last one, the piece)."""
    found = []
    place = 0
    for piece in row:
        behind = place + piece[2] - piece[1]
        found.append((place, behind, piece))
        place = behind
    return found


def first_again(row, at):
    """The first number in piece at of the row that a piece ahead has of the same series, or None."""
    series, low, high = row[at]
    found = None
    for name, start, end in row[:at]:
        if name == series and start < high and low < end:
            first = max(low, start)
            if found is None or first < found:
                found = first
    return found


def row_runs(row):
    """The RUNS of the row's notes."""
    for at, (place, behind, piece) in enumerate(with_places(row)):
        again = first_again(row, at)
        if again is not None:
            raise NoRow(place + again - piece[1])
    return runs_of(row)


def first_number(row, series):
    """The number less the place of the row's first note of the series, None where it has none."""
    for place, behind, piece in with_places(row):
        if piece[0] == series:
            return piece[1] - place
    return None


def first_fault(row, series):
    """The first place at fault where the row is read for the series, None where none is."""
    first = first_number(row, series)
    for at, (place, behind, piece) in enumerate(with_places(row)):
        faults = []
        again = first_again(row, at)
        if again is not None:
            faults.append(place + again - piece[1])
        if piece[0] == series:
            # All places of a piece have the same number less place, so its first one tells.
            if first < 0 or piece[1] - place != first:
                faults.append(place)
        elif first is not None and first + behind > NUMBERS:
            # A star ahead of the first note of the series stands in a lower number's stead than that note's.
            faults.append(max(place, NUMBERS - first))
        if faults:
            return min(faults)
    return None


def read_row(row, series):
    """What the row tells of the series: (first, many, gaps, stars)."""
    fault = first_fault(row, series)
    if fault is not None:
        raise NoRow(fault)
    first = first_number(row, series)
    if first is None:
        raise NoRow(places_in(row))
    stars = [part for part in with_places(row) if part[2][0] != series]
    gaps = runs_of([(series, first + place, first + behind) for place, behind, piece in stars])
    return (first, places_in(row), gaps, as_few([piece for place, behind, piece in stars]))


def as_few(pieces):
    """As few pieces as can be that have the same notes in the same order."""
    found = []
    for series, low, high in pieces:
        if found and found[-1][0] == series and found[-1][2] == low:
            found[-1] = (series, found[-1][1], high)
        else:
            found.append((series, low, high))
    return tuple(found)


def pieces_of(notes):
    """The ROW that has just these notes, in their order."""
    return as_few([(series, number, number + 1) for series, number in notes])
