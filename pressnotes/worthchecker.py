"""The checker of papers of what all unread notes together are worth at the least, or at the most."""

from pressnotes.bags import lying, stock_by_series, stock_of, wanted
from pressnotes.errors import NoPaper
from pressnotes.fillchecker import can_stand, is_names, refuse_bags, sums_by
from pressnotes.kinds import is_number, is_tuple_of, is_word, rises
from pressnotes.offices import levels_of, worth_of
from pressnotes.pages import is_name


def is_series_row(thing):
    """Whether it is a tuple of two NAMES, a SERIES and a NUMBER from 1 on."""
    if not is_tuple_of(thing, 4) or not is_name(thing[0]) or not is_name(thing[1]):
        return False
    return is_word(thing[2]) and is_number(thing[3]) and thing[3] >= 1


def is_series_filling_like(thing):
    """Whether it is a filling by series by kinds."""
    if not isinstance(thing, tuple) or not all(is_series_row(row) for row in thing):
        return False
    return rises([row[:3] for row in thing])


def is_worth_paper(thing):
    """Whether it is a tuple of a filling by series and sets, of any number, by kinds."""
    if not is_tuple_of(thing, 2) or not is_series_filling_like(thing[0]):
        return False
    return isinstance(thing[1], tuple) and all(is_names(names) for names in thing[1])


def refuse_filling(office, book, rows):
    """Refuses rows that are no filling by series."""
    want = wanted(book)
    lies = lying(office, book)
    for k, row in enumerate(rows):
        if not can_stand(want, lies, row) or worth_of(office, row[2]) == 0:
            raise NoPaper("row", k)
    stock = stock_by_series(book)
    given = sums_by([((name, series), bag, many) for name, bag, series, many in rows], 0)
    for k, name in enumerate(stock_of(book)):
        if any(pair[0] == name and given[pair] > stock.get(pair, 0) for pair in given):
            raise NoPaper("supply", k)
    refuse_bags(want, sums_by([(name, bag, many) for name, bag, series, many in rows], 1))


def refuse_sets(office, book, sets):
    """Refuses sets that are not as many as steps, and a set with a name that is no bag's with unread ones."""
    if len(sets) != len(levels_of(office)) - 1:
        raise NoPaper("many", -1)
    want = wanted(book)
    for k, names in enumerate(sets):
        if not all(name in want for name in names):
            raise NoPaper("names", k)


def is_of_lot(office, word, level, series):
    """Whether notes of the series are of the LOT of the step of this worth."""
    if word == "most":
        return worth_of(office, series) > level
    return worth_of(office, series) <= level


def sum_of_step(office, book, word, level, names):
    """How many notes of the LOT the set can take, and the unread ones of all other bags."""
    want = wanted(book)
    lies = lying(office, book)
    stock = stock_by_series(book)
    total = sum(want[name] for name in want if name not in names)
    for name, series in stock:
        if is_of_lot(office, word, level, series) and any(name in lies[bag] for bag in names):
            total += stock[(name, series)]
    return total


def bound_by(office, book, word, sets):
    """The bound of the worth of all unread ones by the sets, one for each step."""
    levels = levels_of(office)
    steps = 0
    for k, names in enumerate(sets):
        steps += (levels[k + 1] - levels[k]) * sum_of_step(office, book, word, levels[k], names)
    total = sum(wanted(book).values())
    if word == "most":
        return levels[0] * total + steps
    return levels[-1] * total - steps


def worth_of_rows(office, rows):
    """What the notes of a filling by series are worth together."""
    return sum(worth_of(office, series) * many for name, bag, series, many in rows)


def lets_worth(office, book, word, thing):
    """What all unread ones are worth at the least, or at the most, by a paper; any other thing is refused."""
    if not is_worth_paper(thing):
        raise NoPaper("shape", -1)
    rows, sets = thing
    refuse_filling(office, book, rows)
    refuse_sets(office, book, sets)
    worth = worth_of_rows(office, rows)
    if worth != bound_by(office, book, word, sets):
        raise NoPaper("bound", -1)
    return worth
