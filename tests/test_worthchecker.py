"""The checker of what all unread notes are worth: point [67]."""

import random

from pressnotes.worthchecker import lets_worth
from tests.support import (
    BIG, JUNK, TOP, PlainCase, notes_of, only_lists_for_tuples, only_truths_for_numbers, random_office, variants,
    word_like,
)
from tests.test_bags import ALWAYS, can_lie_due, supplies_due, true_book
from tests.test_books import bag, count, move, name, read, void
from tests.test_fillchecker import wanted_due
from tests.test_filling import all_fillings
from tests.test_manychecker import names_are
from tests.test_offices import ROADS
from tests.test_pages import name_like

# Three worths of four series: b and d are worth the same.
FOUR = ((("a", 5), ("b", 10), ("c", 2), ("d", 10)), ROADS)
NOTES_OF_FOUR = notes_of((("a", 0, 3), ("b", 0, 2), ("c", 0, 2), ("d", 0, 1)))


def worth_shape(thing):
    if type(thing) is not tuple or len(thing) != 2 or type(thing[0]) is not tuple or type(thing[1]) is not tuple:
        return False
    for row in thing[0]:
        if type(row) is not tuple or len(row) != 4 or not name_like(row[0]) or not name_like(row[1]):
            return False
        if not word_like(row[2]) or type(row[3]) is not int or row[3] < 1:
            return False
    keys = [row[:3] for row in thing[0]]
    return keys == sorted(set(keys)) and all(names_are(names) for names in thing[1])


def rows_due(office, book, rows):
    """The word of the rows of a filling by series, None where they are right."""
    want = wanted_due(book)
    worths = dict(office[0])
    for k, (one, other, series, many) in enumerate(rows):
        if not can_lie_due(office, book, one, other) or other not in want or series not in worths:
            return ("row", k)
    for k, (at, (place, notes)) in enumerate(supplies_due(book).items()):
        for series in worths:
            taken = sum(row[3] for row in rows if row[0] == at and row[2] == series)
            if taken > sum(note[0] == series for note in notes):
                return ("supply", k)
    for k, at in enumerate(want):
        if sum(row[3] for row in rows if row[1] == at) != want[at]:
            return ("bag", k)
    return None


def bound_due(office, book, word, sets):
    worths = dict(office[0])
    steps = sorted(set(worths.values()))
    want = wanted_due(book)
    all_unread = sum(want.values())
    bound = steps[0] * all_unread if word == "most" else steps[-1] * all_unread
    for k, names in enumerate(sets):
        lot = set()
        for at, (place, notes) in supplies_due(book).items():
            if any(can_lie_due(office, book, at, other) for other in names):
                lot |= {note for note in notes if (worths[note[0]] > steps[k]) == (word == "most")}
        total = len(lot) + sum(want[other] for other in want if other not in names)
        bound += (steps[k + 1] - steps[k]) * total * (1 if word == "most" else -1)
    return bound


def worth_due(office, book, word, thing):
    """What any thing is as a paper of worth, by the words of [67]."""
    if not worth_shape(thing):
        return ("shape", -1)
    rows, sets = thing
    fault = rows_due(office, book, rows)
    if fault is not None:
        return fault
    if len(sets) != len({worth for series, worth in office[0]}) - 1:
        return ("many", -1)
    want = wanted_due(book)
    for k, names in enumerate(sets):
        if any(at not in want for at in names):
            return ("names", k)
    worth = sum(dict(office[0])[row[2]] * row[3] for row in rows)
    return ("told", worth) if worth == bound_due(office, book, word, sets) else ("bound", -1)


# Supplies of day 1 (a0 to a2, b0 and c0, at press) and day 3 (b1 and d0, at bank), and of day 7 (c1), too late; unread
# ones: two in the bag of day 2 (from press), three in that of day 5 (from bank), none in that of day 6.
BOOK = (
    move(name(1), runs=(("a", 0, 3), ("b", 0, 1), ("c", 0, 1))), bag(name(2), many=2),
    move(name(3), "none", "press", (("b", 1, 2), ("d", 0, 1))), count(name(4)), bag(name(5), "bank", "post", 3),
    bag(name(6), many=1), read(name(7), name(6), (("c", 1, 2),)), bag(name(8), "bank", "post", 9),
    void(name(9), name(8)),
)
# The most: all three of worth 10, and two of 5; the least: c0, three of 5 and one of 10, for those of day 1 are five.
MOST = (((name(1), name(2), "a", 1), (name(1), name(2), "b", 1), (name(1), name(5), "a", 1),
         (name(3), name(5), "b", 1), (name(3), name(5), "d", 1)), ((), (name(2), name(5))))
LEAST = (((name(1), name(2), "a", 1), (name(1), name(2), "c", 1), (name(1), name(5), "a", 2),
          (name(1), name(5), "b", 1)), ((name(2), name(5)), (name(2), name(5))))


class WorthCase(PlainCase):
    def due(self, due, word, thing, book=BOOK, office=FOUR):
        """The checker tells what is due; the oracle of this file does, too."""
        self.assertEqual(due, worth_due(office, book, word, thing), thing)
        self.same_or_no_paper(due, lets_worth, office, book, word, thing)

    def both_due(self, due, thing, book=BOOK, office=FOUR):
        self.due(due, "most", thing, book, office)
        self.due(due, "least", thing, book, office)

    def as_due(self, word, thing, book=BOOK, office=FOUR):
        due = worth_due(office, book, word, thing)
        self.same_or_no_paper(due, lets_worth, office, book, word, thing)
        return due


class LetsWorthTest(WorthCase):
    def test_right_ones(self):
        self.due(("told", 40), "most", MOST)
        self.due(("told", 27), "least", LEAST)

    def test_one_worth_alone(self):
        office = ((("a", 7), ("b", 7), ("c", 7), ("d", 7)), ROADS)
        for rows in (MOST[0], LEAST[0]):
            self.both_due(("told", 35), (rows, ()), BOOK, office)
            self.both_due(("many", -1), (rows, ((),)), BOOK, office)

    def test_no_unread_ones(self):
        book = (move(name(1)),)
        self.both_due(("told", 0), ((), ((), ())), book)
        self.both_due(("many", -1), ((), ()), book)
        self.both_due(("many", -1), ((), ((), (), ())), book)
        self.both_due(("told", 0), ((), ((), ())), ())

    def test_shape(self):
        rows, sets = MOST
        for thing in (
            None, True, 0, "", (), [], rows, (rows,), [rows, sets], (rows, sets, None), (list(rows), sets),
            (rows, list(sets)), (rows, None), (None, sets), (rows, ((), None)), (rows, ((), [name(2)])),
            (rows, ((), (name(5), name(2)))), (rows, ((), (name(2), name(2)))), (rows, name(2)), (rows, (name(2),)),
            (rows[::-1], sets), (rows + rows[-1:], sets), (rows[:1] + rows, sets), ((list(rows[0]),) + rows[1:], sets),
            (((name(1), name(2), 1),), sets), (((name(1), name(2), "a", 1, 1),), sets),
            (((name(1), name(2), "a", 0),), sets), (((name(1), name(2), "a", True),), sets),
            (((name(1), name(2), "a", -1),), sets), (((name(1), name(2), "A", 1),), sets),
            (((name(1), name(2), "", 1),), sets), (((name(1), name(2), "abcdefghi", 1),), sets),
            (((name(1), name(2), 1, 1),), sets), (((name(1), name(2), None, 1),), sets),
            (((None, name(2), "a", 1),), sets),
            (((name(1), (2, 0), "a", 1),), sets), (((name(1), (2, False, "a"), "a", 1),), sets),
            # Alike in the first three, and the series out of order.
            (((name(1), name(2), "a", 1), (name(1), name(2), "a", 2)), sets),
            (((name(1), name(2), "b", 1), (name(1), name(2), "a", 1)), sets),
            # Kinds of the sets are looked at ahead of the rows' words.
            (((name(0), name(2), "a", 1),), ((), 1)), ((), ((name(5), name(2)),)),
        ):
            self.both_due(("shape", -1), thing)

    def test_rows(self):
        for wrong in (
            (name(0), name(2), "a", 1), (name(1), name(1), "a", 1), (name(1), name(6), "a", 1),
            (name(1), name(8), "a", 1), (name(3), name(2), "b", 1), (name(7), name(5), "c", 1),
            (name(1), name(2), "e", 1), (name(1), name(2), "abcdefgh", 1), (name(1), name(5), "aa", BIG),
        ):
            for sets in ((), MOST[1], ((name(0),), ())):
                self.both_due(("row", 0), ((wrong,), sets))
            more = tuple(sorted(MOST[0] + (wrong,)))
            self.both_due(("row", more.index(wrong)), (more, MOST[1]))

    def test_supplies(self):
        for k, rows in (
            (0, ((name(1), name(2), "a", 4),)), (0, ((name(1), name(2), "b", 2),)), (0, ((name(1), name(2), "d", 1),)),
            (0, ((name(1), name(2), "a", 2), (name(1), name(5), "a", 2))), (0, ((name(1), name(2), "c", BIG),)),
            (1, ((name(3), name(5), "a", 1),)), (1, ((name(3), name(5), "d", 2),)),
            (1, ((name(1), name(2), "a", 2), (name(3), name(5), "b", 1), (name(3), name(5), "c", 1))),
            (0, ((name(1), name(2), "c", 2), (name(3), name(5), "c", 1))),
        ):
            for sets in ((), MOST[1], ((name(0),),)):
                self.both_due(("supply", k), (rows, sets))

    def test_bags(self):
        rows = MOST[0]
        for k, some in ((0, ()), (0, rows[1:]), (0, rows[2:]), (1, rows[:2]), (1, rows[:4]),
                        (0, ((name(1), name(2), "a", 3),))):
            for sets in ((), MOST[1], ((name(0),),)):
                self.both_due(("bag", k), (some, sets))

    def test_many(self):
        for sets in ((), ((),), ((), (), ()), ((name(0),),), ((name(2),),) * 9):
            self.both_due(("many", -1), (MOST[0], sets))

    def test_names(self):
        for k, sets in (
            (0, ((name(6),), ())), (1, ((), (name(6),))), (0, ((name(8),), (name(6),))),
            (1, ((name(2),), (name(1), name(2)))),
            (1, ((name(2), name(5)), (name(2), name(5), name(9)))), (0, ((name(0), name(2)), ())),
        ):
            self.both_due(("names", k), (MOST[0], sets))

    def test_bound(self):
        for sets in (((), ()), ((name(2),), ()), ((), (name(2),)), ((name(5),), (name(5),))):
            self.due(("bound", -1), "most", (MOST[0], sets))
            self.due(("bound", -1), "least", (LEAST[0], sets))
        self.due(("bound", -1), "most", LEAST)
        self.due(("bound", -1), "least", MOST)
        self.due(("bound", -1), "most", (LEAST[0], MOST[1]))
        self.due(("bound", -1), "least", (MOST[0], LEAST[1]))
        # The sets of both steps changed about.
        self.due(("bound", -1), "most", (MOST[0], MOST[1][::-1]))

    def test_any_thing(self):
        for word, right in (("most", MOST), ("least", LEAST)):
            for thing in list(JUNK) + list(variants(right)):
                self.as_due(word, thing)
            for thing in list(only_lists_for_tuples(right)) + list(only_truths_for_numbers(right)):
                self.due(("shape", -1), word, thing)

    def test_great_numbers(self):
        book = (move(name(1), runs=(("a", 0, TOP), ("b", 0, TOP))), bag(name(2), many=TOP), bag(name(3), many=10))
        office = ((("a", 1), ("b", 1000000)), ROADS)
        most = ((name(1), name(2), "b", TOP), (name(1), name(3), "a", 10))
        self.same(TOP * 1000000 + 10, lets_worth, office, book, "most", (most, ((name(2), name(3)),)))
        self.same_or_no_paper(("bound", -1), lets_worth, office, book, "most", (most, ((),)))
        self.same_or_no_paper(("bound", -1), lets_worth, office, book, "least", (most, ((),)))
        least = ((name(1), name(2), "a", TOP), (name(1), name(3), "b", 10))
        self.same(TOP + 10 ** 7, lets_worth, office, book, "least", (least, ((name(2), name(3)),)))

    def test_random_ones(self):
        chance = random.Random(261)
        words = {}
        for _ in range(100):
            office = (FOUR[0], random_office(chance, most=4, always=ALWAYS)[1])
            book = true_book(chance, office, 12, notes=tuple(NOTES_OF_FOUR))
            fillings = all_fillings(office, book)
            if not fillings or not wanted_due(book):
                continue
            for _ in range(30):
                rows = self.by_series(chance, book, chance.choice(fillings))
                names = list(wanted_due(book)) + [chance.choice(book)[0]] * (chance.random() < 0.1)
                sets = tuple(tuple(sorted(at for at in set(names) if chance.random() < 0.5)) for _ in range(2))
                for word in ("least", "most"):
                    due = self.as_due(word, (rows, sets), book, office)
                    words[due[0]] = words.get(due[0], 0) + 1
        for word in ("told", "names", "bound"):
            self.assertGreater(words.get(word, 0), 20, words)

    def by_series(self, chance, book, rows):
        """A filling's rows with some series of the supplies' notes, each note once."""
        stock = {at: list(notes) for at, (place, notes) in supplies_due(book).items()}
        found = {}
        for one, other, many in rows:
            for note in chance.sample(stock[one], many):
                stock[one].remove(note)
                found[one, other, note[0]] = found.get((one, other, note[0]), 0) + 1
        return tuple(sorted(key + (many,) for key, many in found.items()))
