"""What is told falsely: papers of falseness of a note, and all false notes of a book."""

from pressnotes.errors import NoWorld
from pressnotes.falsechecker import is_early, is_in_seal
from pressnotes.reach import all_reaches
from pressnotes.runs import runs_of
from pressnotes.sets import both
from pressnotes.steps import all_steps, steps


def lone_paper(reaches, step):
    """A PAPER that the step alone makes of each note that has it, or None."""
    if is_early(step):
        return ("early", step[3])
    if step[1] not in reaches["none"]:
        return ("road", None, step[3], reaches["none"])
    return None


def pair_paper(reaches, step, later):
    """A PAPER that two steps, the later one sorted behind the other, make of each note that has both, or None."""
    # Two steps that are no neighbours may do, too: where nothing leads from the one to the other, some two between
    # them that are neighbours are false likewise.
    if is_in_seal(step, later):
        return ("seal", step[3], later[3])
    if later[1] not in reaches[step[2]]:
        return ("road", step[3], later[3], reaches[step[2]])
    return None


def false_paper(office, book, note):
    """Any PAPER of falseness of the note, None where it isn't false."""
    reaches = all_reaches(office)
    told = steps(book, note)
    for at, later in enumerate(told):
        papers = [lone_paper(reaches, later)] + [pair_paper(reaches, step, later) for step in told[:at]]
        for paper in papers:
            if paper is not None:
                return paper
    return None


def false_runs(office, book):
    """The RUNS of all false notes of the book."""
    reaches = all_reaches(office)
    told = all_steps(book)
    found = []
    for at, later in enumerate(told):
        if lone_paper(reaches, later) is not None:
            found.extend(later[4])
        for step in told[:at]:
            if pair_paper(reaches, step, later) is not None:
                found.extend(both(step[4], later[4]))
    return runs_of(found)


def refuse_false(office, book):
    """Refuses a book that tells some note falsely."""
    if false_runs(office, book):
        raise NoWorld("false")
