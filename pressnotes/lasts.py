"""Which notes a book tells of, and which page tells the last of each."""

from pressnotes.runs import runs_of
from pressnotes.sets import less, together
from pressnotes.steps import all_steps


def made(book):
    """The RUNS of the notes that have a step."""
    found = []
    for step in all_steps(book):
        found.extend(step[4])
    return runs_of(found)


def last_steps(book):
    """For each page that tells some notes' last step (its name, the place it leads to, the RUNS of these)."""
    found = []
    later = ()
    for moment, start, end, name, runs in reversed(all_steps(book)):
        left = less(runs, later)
        if left:
            found.append((name, end, left))
        later = together(later, runs)
    return sorted(found)


def last_pages(book):
    """LASTS: for each page that tells some notes' last step its name and the RUNS of these."""
    return tuple([(name, runs) for name, place, runs in last_steps(book)])
