"""Stacks and spoilt sheets: point [14]."""

import random

from pressnotes.errors import NoNumber
from pressnotes.stacks import is_rising, spoilt_by, stack_at, stack_place
from tests.support import BIG, FORTY_FIGURES, TOP, PlainCase, runs_from, runs_like
from tests.test_printings import ORDERS, seats_in_order, small_printings


def stack_of(printing, way):
    """All numbers of the stack, pile by pile."""
    series, first, columns, rows, sheets, order = printing
    numbers = {seat: first + place for place, seat in enumerate(seats_in_order(printing))}
    if way == "rows":
        piles = [(row, column) for row in range(rows) for column in range(columns)]
    else:
        piles = [(row, column) for column in range(columns) for row in range(rows)]
    return [numbers[(sheet, row, column)] for row, column in piles for sheet in range(sheets)]


class StackTest(PlainCase):
    def test_told_in_words(self):
        printing = ("a", 0, 2, 3, 2, ("sheet", "row", "column"))
        # Sheet 0 has 0 to 5, sheet 1 has 6 to 11, row by row.
        by_rows = [0, 6, 1, 7, 2, 8, 3, 9, 4, 10, 5, 11]
        by_columns = [0, 6, 2, 8, 4, 10, 1, 7, 3, 9, 5, 11]
        self.assertEqual(by_rows, [stack_at(printing, "rows", k) for k in range(12)])
        self.assertEqual(by_columns, [stack_at(printing, "columns", k) for k in range(12)])

    def test_there_and_back(self):
        for printing in small_printings():
            for way in ("rows", "columns"):
                for k, number in enumerate(stack_of(printing, way)):
                    self.same(number, stack_at, printing, way, k)
                    self.same(k, stack_place, printing, way, number)

    def test_places_and_numbers_beyond(self):
        for printing in small_printings():
            many = printing[2] * printing[3] * printing[4]
            for way in ("rows", "columns"):
                for k in (-1, -many, many, many + 1, TOP, BIG, -BIG, FORTY_FIGURES, -FORTY_FIGURES):
                    self.refused(NoNumber, {"number": k}, stack_at, printing, way, k)
                for number in (6, 0, -1, 7 + many, 8 + many, TOP, BIG, -BIG, FORTY_FIGURES):
                    self.refused(NoNumber, {"number": number}, stack_place, printing, way, number)

    def test_a_large_stack(self):
        printing = ("a", 5, 12, 11, 1000000, ("sheet", "row", "column"))
        self.same(5 + 132 * 999999, stack_at, printing, "rows", 999999)
        self.same(6, stack_at, printing, "rows", 1000000)
        self.same(17, stack_at, printing, "columns", 1000000)
        self.same(5 + 132000000 - 1, stack_at, printing, "rows", 131999999)
        self.same(131999999, stack_place, printing, "columns", 5 + 132000000 - 1)
        self.same(12000000, stack_place, printing, "rows", 17)
        self.same(11000000, stack_place, printing, "columns", 6)
        self.refused(NoNumber, {"number": 132000000}, stack_at, printing, "rows", 132000000)
        self.refused(NoNumber, {"number": 132000005}, stack_place, printing, "rows", 132000005)
        self.refused(NoNumber, {"number": 4}, stack_place, printing, "columns", 4)

    def test_is_rising(self):
        for printing in small_printings():
            for way in ("rows", "columns"):
                numbers = stack_of(printing, way)
                due = all(numbers[at] < numbers[at + 1] for at in range(len(numbers) - 1))
                self.same(due, is_rising, printing, way)

    def test_is_rising_of_large_ones(self):
        for order in ORDERS:
            printing = ("a", 5, 12, 12, 1000000, order)
            self.same(order == ("row", "column", "sheet"), is_rising, printing, "rows")
            self.same(order == ("column", "row", "sheet"), is_rising, printing, "columns")
            alone = ("a", 0, 12, 12, 1, order)
            self.same(order.index("row") < order.index("column"), is_rising, alone, "rows")
            self.same(order.index("column") < order.index("row"), is_rising, alone, "columns")
            one_pile = ("a", 0, 1, 1, 1000000, order)
            self.same(True, is_rising, one_pile, "rows")
            self.same(True, is_rising, one_pile, "columns")
            one_note = ("a", 0, 1, 1, 1, order)
            self.same(True, is_rising, one_note, "rows")
            self.same(True, is_rising, one_note, "columns")


class SpoiltByTest(PlainCase):
    def due(self, printing, sheets, seats):
        numbers = [printing[1] + place for place, seat in enumerate(seats_in_order(printing))
                   if seat[0] in sheets or seat in seats]
        return runs_from([(printing[0], number) for number in numbers])

    def test_void_lists(self):
        for printing in small_printings():
            self.same((), spoilt_by, printing, [], [])

    def test_ordinary(self):
        printing = ("a", 10, 2, 3, 4, ("sheet", "row", "column"))
        self.same((("a", 16, 22),), spoilt_by, printing, [1], [])
        self.same((("a", 10, 22),), spoilt_by, printing, [1, 0], [])
        self.same((("a", 33, 34),), spoilt_by, printing, [], [(3, 2, 1)])
        self.same((("a", 16, 22), ("a", 33, 34)), spoilt_by, printing, [1], [(3, 2, 1)])

    def test_told_twice(self):
        printing = ("a", 10, 2, 3, 4, ("sheet", "row", "column"))
        self.same((("a", 16, 22),), spoilt_by, printing, [1, 1, 1], [])
        self.same((("a", 33, 34),), spoilt_by, printing, [], [(3, 2, 1), (3, 2, 1)])

    def test_seats_on_told_sheets(self):
        printing = ("a", 10, 2, 3, 4, ("sheet", "row", "column"))
        self.same((("a", 16, 22),), spoilt_by, printing, [1], [(1, 0, 0), (1, 2, 1)])
        self.same((("a", 15, 22),), spoilt_by, printing, [1], [(1, 0, 0), (0, 2, 1)])

    def test_random_ones(self):
        chance = random.Random(41)
        for printing in small_printings():
            all_seats = seats_in_order(printing)
            for _ in range(6):
                sheets = [chance.randrange(printing[4]) for _ in range(chance.randint(0, 3))]
                seats = [chance.choice(all_seats) for _ in range(chance.randint(0, 6))]
                self.same(self.due(printing, sheets, seats), spoilt_by, printing, sheets, seats)

    def test_of_a_large_printing(self):
        printing = ("a", 0, 12, 12, 1000000, ("row", "column", "sheet"))
        sheets = list(range(999976, 1000000, 2))
        seats = [(sheet, 11, 11) for sheet in range(999941, 1000000)] + [(0, 0, 0)]
        told = self.ask(spoilt_by, printing, sheets, seats)
        numbers = {1000000 * at + sheet for at in range(144) for sheet in sheets}
        numbers |= {143000000 + sheet for sheet in range(999941, 1000000)} | {0}
        self.assertEqual(runs_from([("a", number) for number in numbers]), told)
        self.assertTrue(runs_like(told))

    def test_the_lists_stay(self):
        sheets = [2, 1, 1]
        seats = [(3, 2, 1), (0, 0, 0)]
        spoilt_by(("a", 10, 2, 3, 4, ("sheet", "row", "column")), sheets, seats)
        self.assertEqual(([2, 1, 1], [(3, 2, 1), (0, 0, 0)]), (sheets, seats))
