"""Gaps: where a note's step doesn't begin at the place to which the one ahead led."""

from pressnotes.falsehoods import refuse_false
from pressnotes.reach import far
from pressnotes.runs import many_in
from pressnotes.sets import both, less, together
from pressnotes.steps import all_steps


def add_gap(found, one, other, many):
    """Counts a gap so many times more, where it is one at all."""
    if one != other and many > 0:
        found[(one, other)] = found.get((one, other), 0) + many


def gaps(book):
    """Each gap of the notes that have steps with how often all of them have it: (one, other, many)."""
    found = {}
    # By places the notes whose last step so far leads there; whatever is at none has no step yet.
    told_at = {}
    for moment, start, end, name, runs in all_steps(book):
        fresh = runs
        for place in list(told_at):
            add_gap(found, place, start, many_in(both(told_at[place], runs)))
            fresh = less(fresh, told_at[place])
            told_at[place] = less(told_at[place], runs)
        add_gap(found, "none", start, many_in(fresh))
        told_at[end] = together(told_at.get(end, ()), runs)
    return tuple([(one, other, found[(one, other)]) for one, other in sorted(found)])


def unseen(office, book):
    """The fewest unseen moves between the steps of all notes together."""
    refuse_false(office, book)
    return sum(far(office, one, other) * many for one, other, many in gaps(book))
