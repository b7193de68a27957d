"""The checkers of fillings, and of bags that have more unread notes than they can take."""

from pressnotes.bags import can_take, lying, stock_of, wanted
from pressnotes.errors import NoPaper
from pressnotes.kinds import is_number, is_tuple_of, rises
from pressnotes.pages import is_name


def is_filling_row(thing):
    """Whether it is a tuple of two NAMES and a NUMBER from 1 on."""
    if not is_tuple_of(thing, 3) or not is_name(thing[0]) or not is_name(thing[1]):
        return False
    return is_number(thing[2]) and thing[2] >= 1


def is_filling_like(thing):
    """Whether it is a FILLING by kinds."""
    if not isinstance(thing, tuple) or not all(is_filling_row(row) for row in thing):
        return False
    return rises([row[:2] for row in thing])


def is_names(thing):
    """Whether it is a rising tuple of unlike NAMES."""
    return isinstance(thing, tuple) and all(is_name(name) for name in thing) and rises(thing)


def sums_by(rows, at):
    """How many notes the rows have together, by the names that stand at this place in them."""
    sums = {}
    for row in rows:
        sums[row[at]] = sums.get(row[at], 0) + row[2]
    return sums


def can_stand(want, lies, row):
    """Whether a row's supply, its first thing, can lie in its bag, the second, and the bag has unread ones."""
    return row[1] in want and row[0] in lies[row[1]]


def refuse_rows(want, lies, rows):
    """Refuses rows whose supply and bag can't stand together."""
    for k, row in enumerate(rows):
        if not can_stand(want, lies, row):
            raise NoPaper("row", k)


def refuse_bags(want, got):
    """Refuses what the bags got, by their names, where it isn't just what they want."""
    for k, (bag, many) in enumerate(want.items()):
        if got.get(bag, 0) != many:
            raise NoPaper("bag", k)


def refuse_names(bags, names):
    """Refuses names that are none of these bags'."""
    for k, name in enumerate(names):
        if name not in bags:
            raise NoPaper("names", k)


def lets_filling(office, book, thing):
    """True of a FILLING; any other thing is refused."""
    if not is_filling_like(thing):
        raise NoPaper("shape", -1)
    want = wanted(book)
    refuse_rows(want, lying(office, book), thing)
    given = sums_by(thing, 0)
    for k, (name, many) in enumerate(stock_of(book).items()):
        if given.get(name, 0) > many:
            raise NoPaper("supply", k)
    refuse_bags(want, sums_by(thing, 1))
    return True


def lets_short(office, book, thing):
    """True of BAGS that have more unread ones than they can take; any other thing is refused."""
    if not is_names(thing):
        raise NoPaper("shape", -1)
    want = wanted(book)
    refuse_names(want, thing)
    if sum(want[name] for name in thing) <= can_take(stock_of(book), lying(office, book), thing):
        raise NoPaper("enough", -1)
    return True
