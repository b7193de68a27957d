"""What the pages of a book tell of a note: its steps, its seals, its place."""

from pressnotes.books import counted_bags, counted_pages
from pressnotes.runs import holds


def all_steps(book):
    """Each counted move and read as (moment, from, to, name, runs), by moments, then names."""
    bags = counted_bags(book)
    found = []
    for name, deed in counted_pages(book):
        if deed[0] == "move":
            found.append((name, deed[1], deed[2], name, deed[3]))
        elif deed[0] == "read":
            bag = bags[deed[1]]
            found.append((deed[1], bag[1], bag[2], name, deed[2]))
    return sorted(found, key=lambda step: (step[0], step[3]))


def steps(book, note):
    """The note's steps, each as (moment, from, to, name)."""
    return tuple([step[:4] for step in all_steps(book) if holds(step[4], note)])


def seals(book, note):
    """The note's seals, each as (the bag's name, the read's name)."""
    # A move's moment is its own name, a read's never is: names of a book are unlike.
    return tuple([(step[0], step[3]) for step in steps(book, note) if step[0] != step[3]])


def told_place(book, note):
    """The place to which the note's last step leads, none where it has no step."""
    told = steps(book, note)
    if not told:
        return "none"
    return told[-1][2]
