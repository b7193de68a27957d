"""The checkers of how many notes of some runs can be in a bag: point [65]."""

import random

from pressnotes.manychecker import lets_least, lets_most
from tests.support import (
    BIG, JUNK, TOP, PlainCase, notes_of, only_lists_for_tuples, only_truths_for_numbers, random_office, runs_from,
    variants,
)
from tests.test_bags import ALWAYS, SOME_NOTES, bags_due, can_lie_due, supplies_due, true_book
from tests.test_books import bag, move, name
from tests.test_fillchecker import BOOK, wanted_due
from tests.test_filling import all_fillings, has_world
from tests.test_offices import OFFICE
from tests.test_pages import name_like


def names_are(thing):
    return type(thing) is tuple and all(name_like(at) for at in thing) and list(thing) == sorted(set(thing))


def parted_shape(rows):
    if type(rows) is not tuple or not all(type(row) is tuple and len(row) == 4 for row in rows):
        return False
    for one, other, many, others in rows:
        if not name_like(one) or not name_like(other) or type(many) is not int or type(others) is not int:
            return False
        if many < 0 or others < 0 or (many, others) == (0, 0):
            return False
    keys = [row[:2] for row in rows]
    return keys == sorted(set(keys))


def rows_due(office, book, wanted_notes, rows):
    """The word of the rows of a PARTED filling, None where they are right."""
    want = wanted_due(book)
    for k, (one, other, many, others) in enumerate(rows):
        if not can_lie_due(office, book, one, other) or other not in want:
            return ("row", k)
    for k, (at, (place, notes)) in enumerate(supplies_due(book).items()):
        mine = [note for note in notes if note in wanted_notes]
        if sum(row[2] for row in rows if row[0] == at) > len(mine):
            return ("supply", k)
        if sum(row[3] for row in rows if row[0] == at) > len(notes) - len(mine):
            return ("supply", k)
    for k, at in enumerate(want):
        if sum(row[2] + row[3] for row in rows if row[1] == at) != want[at]:
            return ("bag", k)
    return None


def can_have_due(office, book, some, at, names):
    """How many notes there are of some that can lie in the bag and of those that the BAGS can take, note by note."""
    found = set()
    for supply, (place, notes) in supplies_due(book).items():
        if can_lie_due(office, book, supply, at):
            found |= {note for note in notes if some(note)}
        if any(can_lie_due(office, book, supply, other) for other in names):
            found |= set(notes)
    return len(found)


def bound_due(office, book, word, wanted_notes, at, names):
    want = wanted_due(book)
    all_unread = want.get(at, 0)
    top = all_unread
    if names is not None:
        def is_some(note):
            return (note in wanted_notes) == (word == "most")

        top = can_have_due(office, book, is_some, at, names) - sum(want[other] for other in names)
    return top if word == "most" else all_unread - top


def many_due(office, book, word, runs, at, thing):
    """What any thing is as a paper of the most, or of the least, by the words of [65]."""
    if type(thing) is not tuple or len(thing) != 2 or not parted_shape(thing[0]):
        return ("shape", -1)
    rows, names = thing
    if names is not None and not names_are(names):
        return ("shape", -1)
    wanted_notes = set(notes_of(runs))
    fault = rows_due(office, book, wanted_notes, rows)
    if fault is not None:
        return fault
    for k, other in enumerate(names or ()):
        if other not in wanted_due(book) or other == at:
            return ("names", k)
    number = sum(row[2] for row in rows if row[1] == at)
    if number != bound_due(office, book, word, wanted_notes, at, names):
        return ("bound", -1)
    return ("told", number)


LETS = {"most": lets_most, "least": lets_least}
# Of the supplies of BOOK: of day 1 a3 of a3 and a4, of day 3 a0 and a1 of a0 to a2, of day 7 b0 of b0 and b1.
RUNS = (("a", 0, 2), ("a", 3, 4), ("b", 0, 1))
# Of the bag of day 5, three notes: the most are a3, a0 and a1; the least is one, for others are a4 and a2 alone.
MOST = (((name(1), name(2), 0, 1), (name(1), name(5), 1, 0), (name(3), name(5), 2, 0)), None)
LEAST = (((name(1), name(2), 1, 0), (name(1), name(5), 0, 1), (name(3), name(5), 1, 1)), ())


class ManyCase(PlainCase):
    def due(self, due, word, thing, runs=RUNS, at=name(5), book=BOOK, office=OFFICE):
        """The checker tells what is due; the oracle of this file does, too."""
        self.assertEqual(due, many_due(office, book, word, runs, at, thing), thing)
        self.same_or_no_paper(due, LETS[word], office, book, runs, at, thing)

    def as_due(self, word, thing, runs=RUNS, at=name(5), book=BOOK, office=OFFICE):
        due = many_due(office, book, word, runs, at, thing)
        self.same_or_no_paper(due, LETS[word], office, book, runs, at, thing)
        return due

    def both_due(self, due, thing, runs=RUNS, at=name(5), book=BOOK, office=OFFICE):
        for word in LETS:
            self.due(due, word, thing, runs, at, book, office)


class RightTest(ManyCase):
    def test_right_ones(self):
        self.due(("told", 3), "most", MOST)
        self.due(("told", 1), "least", LEAST)
        # Of the bag of day 2 one is the most and none the least.
        self.due(("told", 1), "most", (LEAST[0], None), RUNS, name(2))
        self.due(("told", 0), "least", (MOST[0], None), RUNS, name(2))

    def test_no_runs_and_all_runs(self):
        none = ((name(1), name(2), 0, 1), (name(3), name(5), 0, 3))
        every = ((name(1), name(2), 1, 0), (name(3), name(5), 3, 0))
        for runs in ((), (("c", 0, 9),), (("a", 5, 9),)):
            self.due(("told", 0), "most", (none, ()), runs)
            self.due(("told", 0), "least", (none, None), runs)
            self.both_due(("supply", 0), (every, None), runs)
        for runs in ((("a", 0, 5), ("b", 0, 2)), (("a", 0, 14), ("b", 0, 14), ("c", 0, 9))):
            self.due(("told", 3), "most", (every, None), runs)
            self.due(("told", 3), "least", (every, ()), runs)
            self.both_due(("supply", 0), (none, ()), runs)

    def test_a_bag_without_unread_ones(self):
        for word in LETS:
            for rows in (MOST[0], LEAST[0]):
                self.due(("told", 0), word, (rows, None), RUNS, name(6))

    def test_bags_that_bound(self):
        # Both bags want all five that they can take; the bag of day 3 wants two, so one with the RUNS' at least.
        book = (move(name(1)), bag(name(2), many=3), bag(name(3), many=2))
        rows = ((name(1), name(2), 3, 0), (name(1), name(3), 1, 1))
        runs = (("a", 0, 4),)
        self.due(("told", 1), "least", (rows, ()), runs, name(3), book)
        self.due(("bound", -1), "least", (rows, None), runs, name(3), book)
        self.due(("bound", -1), "least", (rows, (name(2),)), runs, name(3), book)
        # By the bag of day 2: five that it can take less its three are two at the most.
        rows = ((name(1), name(2), 2, 1), (name(1), name(3), 2, 0))
        self.due(("told", 2), "most", (rows, (name(2),)), runs, name(3), book)
        self.due(("told", 2), "most", (rows, None), runs, name(3), book)
        self.due(("bound", -1), "most", (rows, ()), runs, name(3), book)

    def test_notes_that_others_need(self):
        # The bag of day 2 needs two of a0 to a2; of the day 4 bag's three the most of these can be but one.
        book = (move(name(1), runs=(("a", 0, 3),)), bag(name(2), many=2), move(name(3), runs=(("b", 0, 3),)),
                bag(name(4), many=3))
        rows = ((name(1), name(2), 2, 0), (name(1), name(4), 1, 0), (name(3), name(4), 0, 2))
        runs = (("a", 0, 3),)
        self.due(("told", 1), "most", (rows, (name(2),)), runs, name(4), book)
        for bound in (None, ()):
            self.due(("bound", -1), "most", (rows, bound), runs, name(4), book)


class WordsTest(ManyCase):
    def test_shape(self):
        rows = MOST[0]
        for thing in (
            None, True, 0, "", (), [], rows, (rows,), [rows, None], (rows, None, None), (list(rows), None),
            (rows, []), (rows, [name(2)]), (rows, False), (rows, 0), (rows, ""), (rows, name(2)), (rows, (None,)),
            (rows, (name(5), name(2))), (rows, (name(2), name(2))), (None, None), (rows[::-1], None),
            (rows + rows[-1:], None), (rows[:1] + rows, None), ((list(rows[0]),) + rows[1:], None),
            (((name(1), name(2), 1),), None), (((name(1), name(2), 1, 0, 0),), None),
            (((name(1), name(2), 0, 0),) + rows[1:], None), (((name(1), name(2), 0, True),) + rows[1:], None),
            (((name(1), name(2), False, 1),) + rows[1:], None), (((name(1), name(2), 2, -1),) + rows[1:], None),
            (((name(1), name(2), -1, 2),) + rows[1:], None), (((name(1), name(2), "0", 1),) + rows[1:], None),
            (((name(1), name(2), None, 1),) + rows[1:], None), (((name(1), None, 0, 1),) + rows[1:], None),
            (((None, name(2), 0, 1),) + rows[1:], None), (((True, 0, "a"), name(2), 0, 1), None),
            (rows[:1] + ((name(1), name(2), 1, 0),) + rows[1:], None), (rows, ((1, True, "a"),)),
            # Kinds of the bound are looked at ahead of the rows' words.
            (((name(0), name(2), 0, 1),), False), ((), (name(5), name(2))),
        ):
            self.both_due(("shape", -1), thing)

    def test_rows(self):
        for wrong in (
            (name(0), name(2), 0, 1), (name(1), name(1), 1, 0), (name(1), name(3), 1, 1), (name(1), name(6), 0, 1),
            (name(1), name(8), 0, 1), (name(3), name(2), 1, 0), (name(7), name(5), 1, 0), (name(1), name(9), 0, BIG),
        ):
            for bound in (None, (), (name(0),), (name(2),)):
                self.both_due(("row", 0), ((wrong,), bound))
            more = tuple(sorted(MOST[0] + (wrong,)))
            self.both_due(("row", more.index(wrong)), (more, None))

    def test_supplies(self):
        for k, rows in (
            (0, ((name(1), name(2), 2, 0),)), (0, ((name(1), name(2), 0, 2),)), (0, ((name(1), name(2), BIG, 0),)),
            (0, ((name(1), name(2), 1, 0), (name(1), name(5), 1, 0))),
            (0, ((name(1), name(2), 0, 1), (name(1), name(5), 0, 1))),
            (1, ((name(3), name(5), 3, 0),)), (1, ((name(3), name(5), 1, 2),)), (1, ((name(3), name(5), 0, 3),)),
            (1, ((name(1), name(2), 1, 1), (name(3), name(5), 3, 1))),
            (0, ((name(1), name(2), 2, 1), (name(3), name(5), 3, 1))),
        ):
            for bound in (None, (name(0),)):
                self.both_due(("supply", k), (rows, bound))

    def test_all_supplies_are_counted(self):
        book = BOOK + (bag(name(10), "bank", "post", 1),)
        rows = ((name(7), name(10), 2, 0),)
        self.both_due(("supply", 2), (rows, None), book=book)

    def test_bags(self):
        rows = MOST[0]
        for k, some in (
            (0, ()), (0, rows[1:]), (1, rows[:1]), (1, rows[:2]), (1, rows[::2]), (0, ((name(1), name(2), 1, 1),)),
            (1, ((name(1), name(2), 0, 1), (name(1), name(5), 1, 0), (name(3), name(5), 2, 1))),
        ):
            for bound in (None, (name(0),), (name(5),)):
                self.both_due(("bag", k), (some, bound))

    def test_names(self):
        for k, bound in (
            (0, (name(5),)), (1, (name(2), name(5))), (0, (name(1),)), (0, (name(0), name(2))), (0, (name(3), name(5))),
            (1, (name(2), name(6))), (1, (name(2), name(8))), (1, (name(2), name(99999, 999, "zzzzzzzz"))),
        ):
            self.both_due(("names", k), (MOST[0], bound))
        self.both_due(("names", 0), (MOST[0], (name(2),)), at=name(2))
        self.both_due(("names", 0), (MOST[0], (name(6),)), at=name(6))

    def test_bound(self):
        self.due(("bound", -1), "most", (LEAST[0], None))
        self.due(("bound", -1), "least", (MOST[0], None))
        self.due(("bound", -1), "least", (MOST[0], ()))
        self.due(("bound", -1), "least", (LEAST[0], None))
        self.due(("bound", -1), "least", (MOST[0], (name(2),)))
        self.due(("bound", -1), "most", (LEAST[0], (name(2),)))
        self.due(("told", 1), "least", (LEAST[0], (name(2),)))
        self.due(("told", 3), "most", (MOST[0], (name(2),)))

    def test_any_thing(self):
        for word, right in (("most", MOST), ("least", LEAST), ("most", (MOST[0], (name(2),)))):
            for thing in list(JUNK) + list(variants(right)):
                self.as_due(word, thing)
            for thing in list(only_lists_for_tuples(right)) + list(only_truths_for_numbers(right)):
                self.due(("shape", -1), word, thing)

    def test_great_numbers(self):
        book = (move(name(1), runs=(("a", 0, TOP), ("b", 0, TOP))), bag(name(2), many=TOP), bag(name(3), many=TOP))
        runs = (("b", 1, TOP),)
        most = ((name(1), name(2), 0, TOP), (name(1), name(3), TOP - 1, 1))
        self.same(TOP - 1, lets_most, OFFICE, book, runs, name(3), (most, ()))
        self.same_or_no_paper(("bound", -1), lets_most, OFFICE, book, runs, name(3), (most, None))
        least = ((name(1), name(2), TOP - 1, 1), (name(1), name(3), 0, TOP))
        self.same(0, lets_least, OFFICE, book, runs, name(3), (least, None))
        most = ((name(1), name(2), 0, TOP + 1), (name(1), name(3), TOP - 1, 0))
        self.same_or_no_paper(("bag", 0), lets_most, OFFICE, book, runs, name(3), (most, ()))


class RandomTest(ManyCase):
    def parted(self, chance, book, rows, wanted_notes):
        """A filling's rows parted anyhow, mostly so that no supply is taken too much of."""
        stock = {at: list(notes) for at, (place, notes) in supplies_due(book).items()}
        found = []
        for one, other, many in rows:
            some = chance.sample(stock[one], many)
            stock[one] = [note for note in stock[one] if note not in some]
            mine = sum(note in wanted_notes for note in some)
            if chance.random() < 0.1:
                mine = chance.randint(0, many)
            found.append((one, other, mine, many - mine))
        return tuple(found)

    def test_random_ones(self):
        chance = random.Random(241)
        words = {}
        for _ in range(120):
            office = random_office(chance, most=4, always=ALWAYS)
            book = true_book(chance, office, 12)
            fillings = all_fillings(office, book)
            if not fillings or not wanted_due(book) or not has_world(office, book):
                continue
            for _ in range(25):
                runs = runs_from(chance.sample(SOME_NOTES, chance.randint(0, 6)))
                rows = self.parted(chance, book, chance.choice(fillings), notes_of(runs))
                names = list(wanted_due(book)) + chance.sample(list(bags_due(book)), 1) * (chance.random() < 0.1)
                bound = tuple(sorted(at for at in set(names) if chance.random() < 0.4))
                thing = (rows, chance.choice((None, (), bound, bound, bound)))
                at = chance.choice(list(bags_due(book)))
                for word in LETS:
                    due = self.as_due(word, thing, runs, at, book, office)
                    words[due[0]] = words.get(due[0], 0) + 1
        for word in ("told", "supply", "names", "bound"):
            self.assertGreater(words.get(word, 0), 30, words)
