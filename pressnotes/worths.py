"""What all unread notes together are worth: the least and the most of all worlds, with papers."""

from pressnotes.bags import stock_by_series
from pressnotes.filling import fill, store_of
from pressnotes.offices import levels_of
from pressnotes.worthchecker import worth_of_rows


def lies_of(lies, stock, lot):
    """Which supplies' notes of the lot's series, as (supply, series), can lie in which bags."""
    return {bag: [(name, series) for name, series in stock if series in lot and name in lies[bag]] for bag in lies}


def fill_all(given, left, ways, lack):
    """Hands the bags what they lack as far as can be; tells the bags that bar those which lack some still."""
    found = {}
    for bag in list(lack):
        lack[bag], barring = fill(given, left, ways, bag, lack[bag])
        # What bars one bag from more goes on doing so: no chain for a later bag comes by it.
        for other in barring:
            found[other] = True
    return tuple(sorted(found))


def series_rows(given):
    """The filling by series of what is given by ((supply, series), bag)."""
    rows = [(name, bag, series, given[((name, series), bag)]) for (name, series), bag in given]
    return tuple(sorted([row for row in rows if row[3] > 0]))


def paper_of(office, book, levels):
    """A filling by series that takes as many notes as can be of the first worths, of these next ones too, and so on.

    Beside it the sets that bar more notes of each such lot, but of the last one.
    """
    stock, want, lies = store_of(office, book)
    left = stock_by_series(book)
    lack = {bag: want[bag] for bag in want}
    given = {}
    sets = []
    for at in range(len(levels)):
        lot = [series for series, worth in office[0] if worth in levels[:at + 1]]
        # Notes that are given stay given, whatever comes later: only into which bag may change.
        sets.append(fill_all(given, left, lies_of(lies, left, lot), lack))
    return (series_rows(given), tuple(sets[:-1]))


def worth_papers(office, book):
    """Papers of the least and of the most that all unread ones are worth together."""
    levels = levels_of(office)
    least = paper_of(office, book, levels)
    rows, sets = paper_of(office, book, levels[::-1])
    return (least, (rows, sets[::-1]))


def worth_between(office, book):
    """The least and the most that all unread ones are worth together in any world."""
    least, most = worth_papers(office, book)
    return (worth_of_rows(office, least[0]), worth_of_rows(office, most[0]))
