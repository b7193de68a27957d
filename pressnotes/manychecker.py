"""The checkers of papers of how many notes of some runs can be in a bag at the most, and are there at the least."""

from pressnotes.bags import lying, parts_of, wanted
from pressnotes.errors import NoPaper
from pressnotes.fillchecker import is_names, refuse_bags, refuse_names, refuse_rows, sums_by
from pressnotes.kinds import is_number, is_tuple_of, rises
from pressnotes.pages import is_name


def is_parted_row(thing):
    """Whether it is a tuple of two NAMES and two NUMBERS from 0 on, not both 0."""
    if not is_tuple_of(thing, 4) or not is_name(thing[0]) or not is_name(thing[1]):
        return False
    many = thing[2]
    others = thing[3]
    return is_number(many) and is_number(others) and many >= 0 and others >= 0 and many + others > 0


def is_parted_like(thing):
    """Whether it is a PARTED filling by kinds."""
    if not isinstance(thing, tuple) or not all(is_parted_row(row) for row in thing):
        return False
    return rises([row[:2] for row in thing])


def is_many_paper(thing):
    """Whether it is a tuple of a PARTED filling and None or names, by kinds."""
    if not is_tuple_of(thing, 2) or not is_parted_like(thing[0]):
        return False
    return thing[1] is None or is_names(thing[1])


def part_of_rows(rows, part):
    """The rows of a PARTED filling with their notes of one part alone: 0 those of the runs, 1 the others."""
    return [(row[0], row[1], row[2 + part]) for row in rows]


def refuse_parted(office, book, runs, rows):
    """Refuses rows that are no PARTED filling for the runs."""
    want = wanted(book)
    refuse_rows(want, lying(office, book), rows)
    given = [sums_by(part_of_rows(rows, part), 0) for part in range(2)]
    for k, (name, parts) in enumerate(parts_of(book, runs).items()):
        if any(given[part].get(name, 0) > parts[part] for part in range(2)):
            raise NoPaper("supply", k)
    refuse_bags(want, sums_by(part_of_rows(rows, 0) + part_of_rows(rows, 1), 1))


def most_by(office, book, runs, bag, part, names):
    """How many notes of one part the bag can have by the names at the most, or by None."""
    want = wanted(book)
    if names is None:
        return want.get(bag, 0)
    lies = lying(office, book)
    total = 0
    for name, parts in parts_of(book, runs).items():
        if any(name in lies[other] for other in names):
            total += parts[0] + parts[1]
        elif name in lies[bag]:
            total += parts[part]
    return total - sum(want[other] for other in names)


def number_shown(office, book, runs, bag, thing):
    """How many of the runs' notes the paper's rows give the bag; refused but for the bound."""
    if not is_many_paper(thing):
        raise NoPaper("shape", -1)
    rows, names = thing
    refuse_parted(office, book, runs, rows)
    if names is not None:
        refuse_names([name for name in wanted(book) if name != bag], names)
    return sums_by(part_of_rows(rows, 0), 1).get(bag, 0)


def lets_most(office, book, runs, bag, thing):
    """The most of the runs' notes that can be unread ones of the bag, by a paper; any other thing is refused."""
    number = number_shown(office, book, runs, bag, thing)
    if number != most_by(office, book, runs, bag, 0, thing[1]):
        raise NoPaper("bound", -1)
    return number


def lets_least(office, book, runs, bag, thing):
    """The least of the runs' notes that can be unread ones of the bag, by a paper; any other thing is refused."""
    number = number_shown(office, book, runs, bag, thing)
    # What the others can't fill is left to the notes of the runs.
    if number != wanted(book).get(bag, 0) - most_by(office, book, runs, bag, 1, thing[1]):
        raise NoPaper("bound", -1)
    return number
