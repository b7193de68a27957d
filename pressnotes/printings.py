"""Printings: which number stands at which seat of which sheet."""

from pressnotes.errors import NoNumber
from pressnotes.kinds import is_from_to, is_number, is_tuple_of, is_word
from pressnotes.runs import NUMBERS, runs_of

WORDS = ("sheet", "row", "column")


def is_order(thing):
    """Whether it is a tuple of the three words, each once."""
    return is_tuple_of(thing, 3) and all(word in thing for word in WORDS)


def is_printing(thing):
    """Whether it is a PRINTING."""
    if not is_tuple_of(thing, 6):
        return False
    series, first, columns, rows, sheets, order = thing
    if not (is_word(series) and is_number(first) and first >= 0 and is_order(order)):
        return False
    if not (is_from_to(columns, 1, 12) and is_from_to(rows, 1, 12) and is_from_to(sheets, 1, 1000000)):
        return False
    return first + columns * rows * sheets <= NUMBERS


def how_many(printing):
    """How many sheets, rows and columns there are, by their words."""
    return {"sheet": printing[4], "row": printing[3], "column": printing[2]}


def printed(printing):
    """The RUN of all its notes."""
    series, first, columns, rows, sheets, order = printing
    return (series, first, first + columns * rows * sheets)


def number_at(printing, sheet, row, column):
    """The number at the seat."""
    many = how_many(printing)
    seat = {"sheet": sheet, "row": row, "column": column}
    outer, middle, inner = printing[5]
    place = (seat[outer] * many[middle] + seat[middle]) * many[inner] + seat[inner]
    return printing[1] + place


def seat_of(printing, number):
    """The seat (sheet, row, column) of the number."""
    series, low, high = printed(printing)
    if number < low or number >= high:
        raise NoNumber(number)
    many = how_many(printing)
    outer, middle, inner = printing[5]
    seat = {}
    rest, seat[inner] = divmod(number - low, many[inner])
    seat[outer], seat[middle] = divmod(rest, many[middle])
    return (seat["sheet"], seat["row"], seat["column"])


def numbers_on(printing, sheet):
    """The numbers on the sheet, row by row."""
    columns = printing[2]
    rows = printing[3]
    return [number_at(printing, sheet, row, column) for row in range(rows) for column in range(columns)]


def runs_of_numbers(printing, numbers):
    """The RUNS of the printing's notes with these numbers."""
    series = printing[0]
    return runs_of([(series, number, number + 1) for number in numbers])


def sheet_runs(printing, sheet):
    """The RUNS of the notes on the sheet."""
    return runs_of_numbers(printing, numbers_on(printing, sheet))


def pile(printing, row, column):
    """The pile at the row and column: its first number, its step, how many sheets it has."""
    first = number_at(printing, 0, row, column)
    # The rule of numbers goes on beyond the last sheet, so one sheet alone has a step, too.
    step = number_at(printing, 1, row, column) - first
    return (first, step, printing[4])
