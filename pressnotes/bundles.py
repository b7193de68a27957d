"""Bundles: the notes of a run, so many to each, stars in the stead of spoilt ones."""

from pressnotes.errors import NoNumber, NoStars
from pressnotes.kinds import is_from_to, is_tuple_of
from pressnotes.runs import holds, is_run, is_runs, kth, many_in, place_of
from pressnotes.sets import both, is_within, less


def is_bundling(thing):
    """Whether it is a BUNDLING, its spoilt ones of however many runs."""
    if not is_tuple_of(thing, 4):
        return False
    run, size, spoilt, stars = thing
    if not (is_run(run) and is_from_to(size, 1, 1000) and is_runs(spoilt) and is_run(stars)):
        return False
    return is_within(spoilt, (run,)) and stars[0] != run[0] and many_in(spoilt) <= many_in((stars,))


def many_bundles(bundling):
    """How many bundles there are; the last one may have fewer places."""
    run, size, spoilt, stars = bundling
    return (many_in((run,)) + size - 1) // size


def bundle_row(bundling, k):
    """The ROW of what stands at the places of bundle k."""
    if k < 0 or k >= many_bundles(bundling):
        raise NoNumber(k)
    (series, low, high), size, spoilt, stars = bundling
    start = low + k * size
    part = ((series, start, min(start + size, high)),)
    # Spoilt runs never touch, so a good piece parts each two of stars, and no two pieces here can be one.
    pieces = sorted(less(part, spoilt) + both(part, spoilt))
    return tuple([standing_for(bundling, piece) for piece in pieces])


def standing_for(bundling, piece):
    """What stands at the places of a piece of the run that is all spoilt or not at all."""
    series, low, high = piece
    star = star_for(bundling, low)
    if star is None:
        return piece
    return (star[0], star[1], star[1] + high - low)


def seat_in(bundling, note):
    """The bundle in which the note stands, and its place there."""
    run, size, spoilt, stars = bundling
    number = number_for(bundling, note)
    if number is None and holds(less((run,), spoilt), note):
        number = note[1]
    if number is None:
        raise NoNumber(note[1])
    return divmod(number - run[1], size)


def star_for(bundling, number):
    """The star that stands in the stead of the run's note of this number, or None."""
    run, size, spoilt, stars = bundling
    place = place_of(spoilt, (run[0], number))
    if place is None:
        return None
    return kth((stars,), place)


def number_for(bundling, star):
    """The number in whose stead the note stands as a star, or None."""
    run, size, spoilt, stars = bundling
    place = place_of((stars,), star)
    if place is None or place >= many_in(spoilt):
        return None
    return kth(spoilt, place)[1]


def laid(run, size, spoilt, stars):
    """The BUNDLING of the run whose spoilt notes are those of spoilt that the run has."""
    within = both(spoilt, (run,))
    lacking = many_in(within) - many_in((stars,))
    if lacking > 0:
        raise NoStars(lacking)
    return (run, size, within, stars)
