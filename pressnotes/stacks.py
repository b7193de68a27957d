"""Stacks: all piles of a printing laid one behind the other."""

from pressnotes.errors import NoNumber
from pressnotes.printings import number_at, numbers_on, pile, runs_of_numbers, seat_of


def pile_seat(printing, way, at):
    """The row and column of the pile that is laid at this place, from 0."""
    columns = printing[2]
    rows = printing[3]
    if way == "rows":
        return divmod(at, columns)
    column, row = divmod(at, rows)
    return (row, column)


def pile_place(printing, way, row, column):
    """The place, from 0, at which the pile of the row and column is laid."""
    columns = printing[2]
    rows = printing[3]
    if way == "rows":
        return row * columns + column
    return column * rows + row


def stack_at(printing, way, k):
    """The number at place k of the stack."""
    sheets = printing[4]
    if k < 0 or k >= printing[2] * printing[3] * sheets:
        raise NoNumber(k)
    at, sheet = divmod(k, sheets)
    row, column = pile_seat(printing, way, at)
    return number_at(printing, sheet, row, column)


def stack_place(printing, way, number):
    """The place of the number in the stack."""
    sheet, row, column = seat_of(printing, number)
    return pile_place(printing, way, row, column) * printing[4] + sheet


def is_rising(printing, way):
    """Whether each number of the stack is above the one ahead."""
    # Within a pile the numbers always rise, so only the seams between piles are looked at.
    last = -1
    for at in range(printing[2] * printing[3]):
        row, column = pile_seat(printing, way, at)
        first, step, many = pile(printing, row, column)
        if first <= last:
            return False
        last = first + step * (many - 1)
    return True


def spoilt_by(printing, sheets, seats):
    """The RUNS of all notes on one of these sheets or at one of these seats."""
    numbers = [number_at(printing, sheet, row, column) for sheet, row, column in seats]
    for sheet in sheets:
        numbers.extend(numbers_on(printing, sheet))
    return runs_of_numbers(printing, numbers)
