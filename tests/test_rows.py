"""Rows of notes: points [16], [18], [19]."""

import random

from pressnotes.errors import NoNumber, NoRow
from pressnotes.rows import is_row, pieces_of, places_in, read_row, row_at, row_runs
from tests.support import (
    BIG, FORTY_FIGURES, JUNK, TOP, PlainCase, notes_of, only_lists_for_tuples, only_truths_for_numbers, run_like,
    runs_from, variants,
)


def row_like(thing):
    return type(thing) is tuple and thing != () and all(run_like(piece) for piece in thing)


def fewest_pieces(notes):
    """The notes cut wherever the next one isn't the number behind, of the same series."""
    found = []
    for series, number in notes:
        if found and found[-1][0] == series and found[-1][2] == number:
            found[-1][2] += 1
        else:
            found.append([series, number, number + 1])
    return tuple(tuple(piece) for piece in found)


def runs_due(row):
    notes = notes_of(row)
    for place, note in enumerate(notes):
        if note in notes[:place]:
            return ("refused", place)
    return ("told", runs_from(notes))


def reading_due(row, series):
    """Point [19], place by place."""
    notes = notes_of(row)
    firsts = [place for place, note in enumerate(notes) if note[0] == series]
    start = notes[firsts[0]][1] - firsts[0] if firsts else None
    for place, note in enumerate(notes):
        if note in notes[:place]:
            return ("refused", place)
        if note[0] == series and (note[1] - place < 0 or note[1] - place != start):
            return ("refused", place)
        if note[0] != series and firsts and place > firsts[0] and place + start > 999999999:
            return ("refused", place)
    if not firsts:
        return ("refused", len(notes))
    gaps = [(series, start + place) for place, note in enumerate(notes) if note[0] != series]
    stars = [note for note in notes if note[0] != series]
    return ("told", (start, len(notes), runs_from(gaps), fewest_pieces(stars)))


class IsRowTest(PlainCase):
    def test_right_ones(self):
        self.all_true(is_row, [
            (("a", 0, 1),), (("a", 0, 1), ("a", 0, 1)), (("b", 5, 6), ("a", 0, TOP)), (("a", 0, 2), ("a", 2, 4)),
            (("a", 4, 6), ("a", 0, 2)), (("a", 0, 5), ("a", 3, 9), ("c", TOP - 1, TOP)),
        ])

    def test_wrong_ones(self):
        self.all_false(is_row, [
            (), [], None, ("a", 0, 1), [("a", 0, 1)], (["a", 0, 1],), (("a", 0, 0),), (("a", 0, 1), None),
            (("a", 0, 1), ("a", 1)), (("a", 0, True),), (("a", False, 1),), (("a", 0, TOP + 1),), ((),), "a", 1,
            (("a", 0, 1), ()), ((("a", 0, 1),),), (("a", -1, 1),), (("A", 0, 1),), True, (("a", 0, 1), ["a", 0, 1]),
        ])

    def test_any_thing(self):
        self.told_as(row_like, is_row, JUNK)
        for right in ((("a", 0, 1),), (("b", 4, 6), ("a", 1, 2), ("b", 5, 6))):
            self.told_as(row_like, is_row, variants(right))
            self.all_false(is_row, only_lists_for_tuples(right))
            self.all_false(is_row, only_truths_for_numbers(right))

    def test_of_however_many_pieces(self):
        self.same(True, is_row, (("b", 3, 9), ("a", 0, 1)) * 700)
        self.same(False, is_row, (("b", 3, 9), ("a", 0, 1)) * 700 + (("a", 1, 1),))


class PlacesTest(PlainCase):
    ROW = (("b", 4, 7), ("a", 0, 1), ("b", 5, 6), ("b", 5, 6), ("a", 1, 3))

    def test_places_in(self):
        self.same(8, places_in, self.ROW)
        self.same(1, places_in, (("a", 5, 6),))
        self.same(3 * TOP, places_in, (("a", 0, TOP), ("a", 0, TOP), ("b", 0, TOP)))

    def test_row_at(self):
        notes = [("b", 4), ("b", 5), ("b", 6), ("a", 0), ("b", 5), ("b", 5), ("a", 1), ("a", 2)]
        for k, note in enumerate(notes):
            self.same(note, row_at, self.ROW, k)
        for k in (-1, -8, 8, 9, BIG, -BIG, FORTY_FIGURES, -FORTY_FIGURES):
            self.refused(NoNumber, {"number": k}, row_at, self.ROW, k)

    def test_row_at_of_long_pieces(self):
        row = (("b", 0, TOP), ("a", 0, TOP), ("b", 7, TOP))
        self.same(("b", TOP - 1), row_at, row, TOP - 1)
        self.same(("a", 0), row_at, row, TOP)
        self.same(("b", 7), row_at, row, 2 * TOP)
        self.same(("b", TOP - 1), row_at, row, 3 * TOP - 8)
        self.refused(NoNumber, {"number": 3 * TOP - 7}, row_at, row, 3 * TOP - 7)


class RowRunsTest(PlainCase):
    def test_ordinary(self):
        self.same((("a", 0, 3), ("b", 4, 7)), row_runs, (("b", 4, 7), ("a", 1, 3), ("a", 0, 1)))
        self.same((("a", 0, 1),), row_runs, (("a", 0, 1),))
        self.same((("a", 5, 6), ("b", 5, 6)), row_runs, (("b", 5, 6), ("a", 5, 6)))
        self.same((("a", 0, 1), ("a", 2, 3)), row_runs, (("a", 2, 3), ("a", 0, 1)))

    def test_the_first_place_that_comes_again(self):
        self.refused(NoRow, {"place": 1}, row_runs, (("a", 0, 1), ("a", 0, 1)))
        self.refused(NoRow, {"place": 4}, row_runs, (("a", 4, 7), ("a", 3, 6)))
        self.refused(NoRow, {"place": 3}, row_runs, (("a", 4, 7), ("a", 6, 9)))
        self.refused(NoRow, {"place": 6}, row_runs, (("a", 8, 9), ("a", 4, 6), ("a", 1, 9)))
        self.refused(NoRow, {"place": 6}, row_runs, (("a", 4, 6), ("a", 8, 9), ("a", 1, 9)))
        self.refused(NoRow, {"place": 3}, row_runs, (("a", 4, 7), ("a", 4, 5), ("a", 4, 5)))

    def test_long_pieces(self):
        self.same((("a", 0, TOP), ("b", 0, TOP)), row_runs, (("a", 5, TOP), ("b", 0, TOP), ("a", 0, 5)))
        row = (("a", 5, TOP), ("b", 0, TOP), ("a", 0, 6))
        self.refused(NoRow, {"place": 2 * TOP}, row_runs, row)

    def test_against_notes_one_by_one(self):
        chance = random.Random(51)
        for _ in range(1500):
            row = []
            for _ in range(chance.randint(1, 6)):
                low = chance.randint(0, 25)
                row.append((chance.choice("ab"), low, low + chance.randint(1, 4)))
            self.same_or_refused(runs_due(row), NoRow, "place", row_runs, tuple(row))

    def test_sixty_pieces(self):
        row = tuple(("a", 3 * at, 3 * at + 3) for at in range(60))[::-1]
        self.same((("a", 0, 180),), row_runs, row)
        self.refused(NoRow, {"place": 180}, row_runs, row + (("a", 90, 91),))


class ReadRowTest(PlainCase):
    def test_ordinary(self):
        self.same((5, 3, (), ()), read_row, (("a", 5, 8),), "a")
        row = (("a", 5, 8), ("s", 0, 1), ("a", 9, 12), ("s", 1, 3))
        self.same((5, 9, (("a", 8, 9), ("a", 12, 14)), (("s", 0, 3),)), read_row, row, "a")
        self.same((5, 5, (), ()), read_row, (("a", 5, 8), ("a", 8, 10)), "a")

    def test_stars_ahead_of_the_first(self):
        row = (("s", 7, 9), ("a", 5, 8))
        self.same((3, 5, (("a", 3, 5),), (("s", 7, 9),)), read_row, row, "a")
        self.same((0, 3, (("a", 0, 2),), (("s", 7, 9),)), read_row, (("s", 7, 9), ("a", 2, 3)), "a")

    def test_stars_of_several_series_and_orders(self):
        row = (("t", 4, 5), ("s", 3, 4), ("a", 12, 13), ("s", 4, 5), ("s", 9, 10), ("s", 8, 9))
        stars = (("t", 4, 5), ("s", 3, 5), ("s", 9, 10), ("s", 8, 9))
        self.same((10, 6, (("a", 10, 12), ("a", 13, 16)), stars), read_row, row, "a")

    def test_stars_join_across_notes_of_the_series(self):
        row = (("s", 0, 2), ("a", 2, 3), ("s", 2, 3), ("a", 4, 5), ("s", 3, 4))
        self.same((0, 6, (("a", 0, 2), ("a", 3, 4), ("a", 5, 6)), (("s", 0, 4),)), read_row, row, "a")

    def test_gaps_join_where_stars_touch(self):
        row = (("a", 2, 3), ("s", 5, 6), ("t", 0, 1), ("s", 0, 1), ("a", 6, 7))
        self.same((2, 5, (("a", 3, 6),), (("s", 5, 6), ("t", 0, 1), ("s", 0, 1))), read_row, row, "a")

    def test_no_note_of_the_series(self):
        self.refused(NoRow, {"place": 3}, read_row, (("s", 5, 8),), "a")
        self.refused(NoRow, {"place": 5}, read_row, (("s", 5, 8), ("t", 0, 2)), "a")
        self.refused(NoRow, {"place": 5}, read_row, (("a", 5, 8), ("b", 0, 1), ("a", 9, 10)), "ab")
        self.refused(NoRow, {"place": TOP + 5}, read_row, (("s", 0, TOP), ("t", 0, 5)), "a")

    def test_no_note_of_the_series_but_a_star_again(self):
        self.refused(NoRow, {"place": 4}, read_row, (("s", 5, 8), ("s", 4, 6), ("t", 0, 1)), "a")
        self.refused(NoRow, {"place": 1}, read_row, (("s", 5, 6), ("s", 5, 6)), "a")

    def test_a_note_again(self):
        self.refused(NoRow, {"place": 3}, read_row, (("a", 5, 8), ("a", 7, 9)), "a")
        self.refused(NoRow, {"place": 3}, read_row, (("s", 0, 1), ("a", 5, 7), ("s", 0, 1), ("a", 8, 9)), "a")
        self.refused(NoRow, {"place": 4}, read_row, (("s", 1, 3), ("a", 5, 6), ("s", 0, 2), ("a", 1, 2)), "a")

    def test_a_number_less_its_place_below_nought(self):
        self.refused(NoRow, {"place": 1}, read_row, (("s", 0, 1), ("a", 0, 1)), "a")
        self.refused(NoRow, {"place": 2}, read_row, (("s", 0, 2), ("a", 1, 5)), "a")
        self.same((0, 6, (("a", 0, 2),), (("s", 0, 2),)), read_row, (("s", 0, 2), ("a", 2, 6)), "a")
        self.refused(NoRow, {"place": 1}, read_row, (("s", 0, 1), ("s", 0, 1), ("a", 0, 1)), "a")

    def test_a_note_at_another_place_than_due(self):
        self.refused(NoRow, {"place": 3}, read_row, (("a", 5, 8), ("a", 9, 11)), "a")
        self.refused(NoRow, {"place": 4}, read_row, (("a", 5, 8), ("s", 0, 1), ("a", 8, 9)), "a")
        self.refused(NoRow, {"place": 4}, read_row, (("a", 5, 8), ("s", 0, 1), ("a", 10, 12)), "a")
        self.refused(NoRow, {"place": 3}, read_row, (("a", 5, 8), ("a", 0, 2), ("s", 0, 1)), "a")

    def test_the_first_fault_goes(self):
        self.refused(NoRow, {"place": 3}, read_row, (("a", 5, 8), ("a", 9, 11), ("a", 9, 11)), "a")
        self.refused(NoRow, {"place": 2}, read_row, (("s", 0, 2), ("s", 1, 3), ("a", 0, 1)), "a")
        self.refused(NoRow, {"place": 2}, read_row, (("a", 5, 7), ("a", 4, 6)), "a")

    def test_the_last_number_of_all(self):
        self.same((TOP - 3, 3, (), ()), read_row, (("a", TOP - 3, TOP),), "a")
        row = (("a", TOP - 3, TOP - 1), ("s", 0, 1))
        self.same((TOP - 3, 3, (("a", TOP - 1, TOP),), (("s", 0, 1),)), read_row, row, "a")
        self.refused(NoRow, {"place": 3}, read_row, (("a", TOP - 3, TOP - 1), ("s", 0, 2)), "a")
        self.refused(NoRow, {"place": 3}, read_row, (("a", TOP - 3, TOP), ("s", 0, 2)), "a")
        self.refused(NoRow, {"place": 4}, read_row, (("s", 0, 1), ("a", TOP - 3, TOP), ("s", 1, 2)), "a")
        row = (("s", 0, 5), ("a", TOP - 1, TOP))
        self.same((TOP - 6, 6, (("a", TOP - 6, TOP - 1),), (("s", 0, 5),)), read_row, row, "a")

    def test_a_star_again_ahead_of_the_bound_and_behind_it(self):
        row = (("s", 0, 1), ("a", TOP - 3, TOP - 2), ("t", 0, 1), ("s", 0, 9))
        self.refused(NoRow, {"place": 3}, read_row, row, "a")
        row = (("s", 8, 9), ("a", TOP - 3, TOP - 2), ("s", 3, 9))
        self.refused(NoRow, {"place": 4}, read_row, row, "a")

    def test_long_pieces(self):
        row = (("a", 0, TOP - 5), ("s", 0, 5))
        self.same((0, TOP, (("a", TOP - 5, TOP),), (("s", 0, 5),)), read_row, row, "a")
        row = (("s", 0, TOP - 5), ("a", TOP - 5, TOP))
        self.same((0, TOP, (("a", 0, TOP - 5),), (("s", 0, TOP - 5),)), read_row, row, "a")
        self.refused(NoRow, {"place": TOP}, read_row, (("a", 0, 1), ("s", 0, TOP)), "a")
        self.refused(NoRow, {"place": TOP}, read_row, (("s", 0, TOP), ("a", TOP - 1, TOP)), "a")

    def random_row(self, chance, low):
        """A row mostly right for series a, its numbers from low on."""
        row = []
        place = 0
        star = chance.randint(0, 5)
        start = low + chance.randint(0, 6)
        for _ in range(chance.randint(1, 6)):
            many = chance.randint(1, 4)
            if chance.random() < 0.5:
                series = "s" if chance.random() < 0.8 else "t"
                if chance.random() < 0.1:
                    star = chance.randint(0, 20)
                row.append((series, star, star + many))
                star += many
            else:
                number = start + place if chance.random() < 0.93 else low + chance.randint(0, 12)
                row.append(("a", number, number + many))
            place += many
        return tuple(row)

    def test_against_notes_one_by_one(self):
        chance = random.Random(52)
        told = 0
        for low in (0, 0, TOP - 24, TOP - 18):
            for _ in range(1500):
                row = self.random_row(chance, low)
                if row_like(row):
                    due = reading_due(row, "a")
                    told += due[0] == "told"
                    self.same_or_refused(due, NoRow, "place", read_row, row, "a")
        self.assertGreater(told, 1000)

    def test_rows_of_small_pieces_by_every_series(self):
        chance = random.Random(53)
        for _ in range(1500):
            row = []
            for _ in range(chance.randint(1, 5)):
                low = chance.randint(0, 6)
                row.append((chance.choice("ab"), low, low + chance.randint(1, 2)))
            for series in ("a", "b", "c"):
                self.same_or_refused(reading_due(row, series), NoRow, "place", read_row, tuple(row), series)


class PiecesOfTest(PlainCase):
    def test_ordinary(self):
        self.same((("a", 5, 6),), pieces_of, [("a", 5)])
        self.same((("a", 5, 8),), pieces_of, [("a", 5), ("a", 6), ("a", 7)])
        self.same((("a", 5, 6), ("a", 5, 6)), pieces_of, [("a", 5), ("a", 5)])
        self.same((("a", 6, 7), ("a", 5, 6)), pieces_of, [("a", 6), ("a", 5)])
        self.same((("a", 5, 6), ("b", 6, 7), ("a", 6, 7)), pieces_of, [("a", 5), ("b", 6), ("a", 6)])
        self.same((("a", 5, 6), ("a", 7, 8)), pieces_of, [("a", 5), ("a", 7)])
        self.same((("a", TOP - 2, TOP), ("b", 0, 1)), pieces_of, [("a", TOP - 2), ("a", TOP - 1), ("b", 0)])

    def test_five_hundred(self):
        rising = [("a", number) for number in range(500)]
        self.same((("a", 0, 500),), pieces_of, rising)
        falling = rising[::-1]
        self.same(tuple(("a", number, number + 1) for series, number in falling), pieces_of, falling)

    def test_random_notes(self):
        chance = random.Random(54)
        for _ in range(500):
            notes = [(chance.choice("ab"), chance.randint(0, 9))]
            for _ in range(chance.randint(0, 40)):
                series, number = notes[-1]
                if chance.random() < 0.3:
                    series, number = chance.choice("ab"), chance.randint(0, 9)
                notes.append((series, number + 1))
            told = self.ask(pieces_of, notes)
            self.assertEqual(fewest_pieces(notes), told)
            self.assertEqual(notes, notes_of(told))

    def test_the_list_stays(self):
        notes = [("a", 6), ("a", 5)]
        pieces_of(notes)
        self.assertEqual([("a", 6), ("a", 5)], notes)
