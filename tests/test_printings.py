"""Printings: points [12] and [13]; of is_printing also [16]."""

import itertools
import math
import random

from pressnotes.errors import NoNumber
from pressnotes.printings import is_printing, number_at, pile, printed, seat_of, sheet_runs
from tests.support import (
    BIG, FORTY_FIGURES, JUNK, TOP, PlainCase, number_like, only_lists_for_tuples, only_truths_for_numbers,
    runs_from, runs_like, variants, word_like,
)

ORDERS = list(itertools.permutations(("sheet", "row", "column")))
SIZES = [(1, 1, 1), (2, 3, 4), (3, 2, 5), (1, 4, 3), (4, 1, 3), (3, 4, 1), (1, 1, 6), (5, 1, 1), (1, 5, 1), (2, 2, 2)]


def printing_like(thing):
    if type(thing) is not tuple or len(thing) != 6 or not word_like(thing[0]):
        return False
    series, first, columns, rows, sheets, order = thing
    if not (number_like(first, 0, TOP) and number_like(columns, 1, 12) and number_like(rows, 1, 12)):
        return False
    if not number_like(sheets, 1, 1000000) or type(order) is not tuple or len(order) != 3:
        return False
    if not all(type(word) is str for word in order) or tuple(order) not in ORDERS:
        return False
    return first + columns * rows * sheets - 1 <= 999999999


def seats_in_order(printing):
    """All seats, sorted by their three in the order of order: the k-th has the number first + k."""
    series, first, columns, rows, sheets, order = printing
    seats = itertools.product(range(sheets), range(rows), range(columns))
    at = {"sheet": 0, "row": 1, "column": 2}
    return sorted(seats, key=lambda seat: [seat[at[word]] for word in order])


def small_printings():
    for columns, rows, sheets in SIZES:
        for order in ORDERS:
            yield ("a", 7, columns, rows, sheets, order)


class IsPrintingTest(PlainCase):
    RIGHT = ("a", 0, 2, 3, 4, ("sheet", "row", "column"))

    def changed(self, at, thing):
        return self.RIGHT[:at] + (thing,) + self.RIGHT[at + 1:]

    def test_right_ones(self):
        self.all_true(is_printing, [self.changed(5, order) for order in ORDERS])
        self.all_true(is_printing, [self.changed(2, columns) for columns in range(1, 13)])
        self.all_true(is_printing, [self.changed(3, rows) for rows in range(1, 13)])
        self.all_true(is_printing, [self.changed(4, sheets) for sheets in (1, 2, 999999, 1000000)])
        self.all_true(is_printing, [self.changed(0, series) for series in ("z", "abcdefgh", "none", "sheet")])
        self.all_true(is_printing, [self.changed(1, first) for first in (0, 1, TOP - 24)])
        self.all_true(is_printing, [("a", 0, 12, 12, 1000000, ("column", "row", "sheet"))])

    def test_numbers_beyond_bounds(self):
        self.all_false(is_printing, [self.changed(2, columns) for columns in (0, -1, 13, 144, BIG, -BIG)])
        self.all_false(is_printing, [self.changed(3, rows) for rows in (0, -1, 13, 144, BIG, -BIG)])
        self.all_false(is_printing, [self.changed(4, sheets) for sheets in (0, -1, 1000001, BIG, -BIG)])
        self.all_false(is_printing, [self.changed(1, first) for first in (-1, TOP, BIG, -BIG, FORTY_FIGURES)])

    def test_the_last_number(self):
        for columns, rows, sheets in ((1, 1, 1), (2, 3, 4), (12, 12, 1000000), (1, 12, 1000)):
            for order in ORDERS:
                first = TOP - columns * rows * sheets
                self.same(True, is_printing, ("a", first, columns, rows, sheets, order))
                self.same(False, is_printing, ("a", first + 1, columns, rows, sheets, order))

    def test_wrong_orders(self):
        self.all_false(is_printing, [self.changed(5, order) for order in (
            ("sheet", "row", "row"), ("sheet", "sheet", "column"), ("sheet", "row", "columns"), ("sheet", "row"),
            ("sheet", "row", "column", "row"), ("sheet", "row", "column", "sheet"), (), ["sheet", "row", "column"],
            ("sheet", "row", None), ("sheet", "row", ("column",)), ("sheet", "row", "column", None), "sheet", None,
            ("Sheet", "row", "column"), ("sheet", "row", ""), (("sheet", "row", "column"),), (0, 1, 2), True,
            ("column", "column", "column"), ("sheet", "row", ["column"]), ("sheet", "row", "column "),
        )])

    def test_truths_are_no_numbers(self):
        self.all_false(is_printing, [
            ("a", False, 2, 3, 4, ORDERS[0]), ("a", True, 2, 3, 4, ORDERS[0]), ("a", 0, True, 3, 4, ORDERS[0]),
            ("a", 0, 2, True, 4, ORDERS[0]), ("a", 0, 2, 3, True, ORDERS[0]),
        ])

    def test_too_short_and_too_long(self):
        self.all_false(is_printing, [
            self.RIGHT[:5], self.RIGHT[1:], self.RIGHT + (0,), self.RIGHT + (None,), list(self.RIGHT), (self.RIGHT,),
            (),
        ])

    def test_any_thing(self):
        self.told_as(printing_like, is_printing, JUNK)
        for right in (self.RIGHT, ("ab", TOP - 144, 12, 12, 1, ("row", "sheet", "column"))):
            self.told_as(printing_like, is_printing, variants(right))
            self.all_false(is_printing, only_lists_for_tuples(right))
            self.all_false(is_printing, only_truths_for_numbers(right))


class SeatsTest(PlainCase):
    def test_by_the_rule_of_the_document(self):
        # a, b, c in the order ("row", "sheet", "column"): first + (row * sheets + sheet) * columns + column.
        printing = ("b", 100, 3, 2, 5, ("row", "sheet", "column"))
        self.same(100, number_at, printing, 0, 0, 0)
        self.same(100 + (1 * 5 + 4) * 3 + 2, number_at, printing, 4, 1, 2)
        self.same(100 + (0 * 5 + 4) * 3 + 0, number_at, printing, 4, 0, 0)
        self.same((4, 1, 2), seat_of, printing, 129)
        self.same(("b", 100, 130), printed, printing)

    def test_all_seats_of_small_printings(self):
        for printing in small_printings():
            seats = seats_in_order(printing)
            self.same(("a", 7, 7 + len(seats)), printed, printing)
            for place, seat in enumerate(seats):
                self.same(7 + place, number_at, printing, *seat)
                self.same(seat, seat_of, printing, 7 + place)

    def test_numbers_that_are_not_printed(self):
        for printing in small_printings():
            behind = 7 + printing[2] * printing[3] * printing[4]
            for number in (6, 0, -1, -7, behind, behind + 1, TOP, BIG, -BIG, FORTY_FIGURES, -FORTY_FIGURES):
                self.refused(NoNumber, {"number": number}, seat_of, printing, number)

    def test_corners_of_a_large_one(self):
        corners = list(itertools.product((0, 999999), (0, 11), (0, 11)))
        for order in ORDERS:
            printing = ("a", 5, 12, 12, 1000000, order)
            many = {"sheet": 1000000, "row": 12, "column": 12}
            self.same(("a", 5, 144000005), printed, printing)
            for corner in corners + [(123456, 7, 3), (1, 0, 0), (0, 1, 0), (0, 0, 1)]:
                seat = dict(zip(("sheet", "row", "column"), corner))
                number = 5
                number += seat[order[0]] * many[order[1]] * many[order[2]]
                number += seat[order[1]] * many[order[2]] + seat[order[2]]
                self.same(number, number_at, printing, *corner)
                self.same(corner, seat_of, printing, number)
            for number in (4, 144000005, -1, FORTY_FIGURES):
                self.refused(NoNumber, {"number": number}, seat_of, printing, number)

    def test_up_to_the_last_number_of_all(self):
        printing = ("a", TOP - 24, 2, 3, 4, ("column", "sheet", "row"))
        self.same(("a", TOP - 24, TOP), printed, printing)
        self.same(TOP - 1, number_at, printing, 3, 2, 1)
        self.same((3, 2, 1), seat_of, printing, TOP - 1)
        self.refused(NoNumber, {"number": TOP}, seat_of, printing, TOP)

    def test_from_the_first_number_of_all(self):
        printing = ("a", 0, 2, 2, 2, ("sheet", "row", "column"))
        self.same((0, 0, 0), seat_of, printing, 0)
        self.refused(NoNumber, {"number": -1}, seat_of, printing, -1)


class SheetsAndPilesTest(PlainCase):
    def test_sheets_of_small_printings(self):
        for printing in small_printings():
            seats = seats_in_order(printing)
            for sheet in range(printing[4]):
                notes = [("a", 7 + place) for place, seat in enumerate(seats) if seat[0] == sheet]
                self.same(runs_from(notes), sheet_runs, printing, sheet)

    def test_sheets_of_large_printings(self):
        whole = ("a", 0, 12, 12, 1000000, ("sheet", "column", "row"))
        self.same((("a", 0, 144),), sheet_runs, whole, 0)
        self.same((("a", 143999856, 144000000),), sheet_runs, whole, 999999)
        apart = ("b", 3, 12, 12, 1000000, ("column", "row", "sheet"))
        told = tuple(("b", 3 + 999999 + 1000000 * at, 3 + 1000000 * (at + 1)) for at in range(144))
        self.same(told, sheet_runs, apart, 999999)
        self.assertTrue(runs_like(told))
        rows = ("c", 0, 12, 12, 1000000, ("row", "sheet", "column"))
        told = tuple(("c", 12000000 * row + 12 * 5, 12000000 * row + 12 * 6) for row in range(12))
        self.same(told, sheet_runs, rows, 5)

    def test_one_sheet_alone_is_one_run(self):
        for order in ORDERS:
            self.same((("a", 9, 15),), sheet_runs, ("a", 9, 2, 3, 1, order), 0)

    def test_piles_of_small_printings(self):
        for printing in small_printings():
            seats = seats_in_order(printing)
            series, first, columns, rows, sheets, order = printing
            # One more sheet brings as many numbers as there are seats of the words inward of it.
            many = {"row": rows, "column": columns}
            step = math.prod(many[word] for word in order[order.index("sheet") + 1:])
            for row in range(rows):
                for column in range(columns):
                    numbers = [7 + seats.index((sheet, row, column)) for sheet in range(sheets)]
                    self.same((numbers[0], step, sheets), pile, printing, row, column)
                    self.assertEqual(numbers, [numbers[0] + at * step for at in range(sheets)])

    def test_the_step_of_one_sheet_alone(self):
        steps = {
            ("sheet", "row", "column"): 6, ("sheet", "column", "row"): 6, ("row", "sheet", "column"): 2,
            ("column", "sheet", "row"): 3, ("row", "column", "sheet"): 1, ("column", "row", "sheet"): 1,
        }
        for order, step in steps.items():
            printing = ("a", 9, 2, 3, 1, order)
            self.same((9, step, 1), pile, printing, 0, 0)
            self.same((14, step, 1), pile, printing, 2, 1)

    def test_piles_of_large_printings(self):
        self.same((143, 144, 1000000), pile, ("a", 0, 12, 12, 1000000, ("sheet", "row", "column")), 11, 11)
        self.same((11 * 12000000, 12, 1000000), pile, ("a", 0, 12, 12, 1000000, ("row", "sheet", "column")), 11, 0)
        self.same((143000000, 1, 1000000), pile, ("a", 0, 12, 12, 1000000, ("row", "column", "sheet")), 11, 11)

    def test_piles_end_at_the_last_number_of_all(self):
        self.same((TOP - 1, 6, 1), pile, ("a", TOP - 6, 2, 3, 1, ("sheet", "row", "column")), 2, 1)

    def test_random_printings(self):
        chance = random.Random(31)
        for _ in range(60):
            columns, rows, sheets = chance.randint(1, 12), chance.randint(1, 12), chance.randint(1, 4)
            printing = ("ab", chance.randint(0, 50), columns, rows, sheets, chance.choice(ORDERS))
            seats = seats_in_order(printing)
            place = chance.randrange(len(seats))
            self.same(seats[place], seat_of, printing, printing[1] + place)
            self.same(printing[1] + place, number_at, printing, *seats[place])
            sheet = chance.randrange(sheets)
            notes = [("ab", printing[1] + at) for at, seat in enumerate(seats) if seat[0] == sheet]
            self.same(runs_from(notes), sheet_runs, printing, sheet)
