"""Balances: what moves and bags bring to a place, less what they take from it."""

from pressnotes.books import counted_pages, until
from pressnotes.runs import many_in
from pressnotes.sets import of_series


def brought(deed, place, many):
    """What so many notes going by the road of a move or a bag turn at the place."""
    if deed[2] == place:
        return many
    if deed[1] == place:
        return -many
    return 0


def traffic(book, place):
    """The counted moves and bags that begin or end at the place: their names, and how many they bring or take."""
    found = []
    for name, deed in counted_pages(book):
        if deed[0] == "move" and place in deed[1:3]:
            found.append((name, brought(deed, place, many_in(deed[3]))))
        elif deed[0] == "bag" and place in deed[1:3]:
            found.append((name, brought(deed, place, deed[3])))
    return found


def balance(book, place):
    """What the counted moves and bags to the place have, less what those from it have."""
    return sum(many for name, many in traffic(book, place))


def moved(book, place, series):
    """The same by counted moves alone, of the notes of one series."""
    total = 0
    for name, deed in counted_pages(book):
        if deed[0] == "move":
            total += brought(deed, place, many_in(of_series(deed[3], series)))
    return total


def by_days(book, place):
    """For each day on which the book has a page the balance behind that day."""
    days = sorted({name[0] for name, deed in book})
    return [(day, balance(until(book, day), place)) for day in days]
