"""Unread notes, supplies, and what can lie in a bag: point [55], with [57]."""

import functools
import random

from pressnotes.bags import can_lie, supplies, supply_of, unread
from pressnotes.errors import NoWorld
from tests.support import TOP, PlainCase, distances, notes_of, office_places, random_office, runs_from
from tests.test_books import bag, count, move, name, names_due, random_book, read, void
from tests.test_falsehoods import is_false_due
from tests.test_offices import OFFICE, WORTHS
from tests.test_steps import ALL_NOTES, steps_due

ALWAYS = (("bank", "post"), ("none", "press"), ("press", "bank"))
SOME_NOTES = notes_of((("a", 0, 5), ("b", 0, 3)))


def true_book(chance, office, most=9, extras=(0, 0, 1, 2, 3), notes=tuple(SOME_NOTES)):
    """A book by which no note is false: the notes walk about, seen and unseen, and pages tell some of it.

    In most of these books the unread notes of bags are some that went into them; in the others there are so many as
    extras have, whether or not so many can be in them.
    """
    pool = [(day, number, hand) for day in range(7) for number in (0, 1) for hand in ("a", "b")]
    names = sorted(chance.sample(pool, chance.randint(2, most)))
    at = {note: "none" for note in notes}
    free_from = {note: (0,) for note in notes}
    is_made = {note: False for note in notes}
    is_honest = chance.random() < 0.6
    pages = {}
    for when in names:
        free = [note for note in notes if free_from[note] <= when]
        for note in free:
            if chance.random() < 0.2:
                at[note] = chance.choice([end for start, end in office[1] if start == at[note]] or [at[note]])
        if when in pages:
            continue
        road = chance.choice([road for road in office[1] if any(at[note] == road[0] for note in free)] or office[1])
        here = [note for note in free if at[note] == road[0]]
        chance.shuffle(here)
        some = here[:chance.randint(0, len(here))]
        if some and (road[0] == "none" or chance.random() < 0.4):
            pages[when] = move(when, road[0], road[1], runs_from(some))
            at.update({note: road[1] for note in some})
            is_made.update({note: True for note in some})
        elif road[0] != "none":
            later = [other for other in names if other > when and other not in pages]
            told = 0
            for reading in chance.sample(later, min(len(later), chance.randint(0, 2))):
                part = [some.pop() for _ in range(chance.randint(0, len(some)))]
                if part:
                    pages[reading] = read(reading, when, runs_from(part))
                    at.update({note: road[1] for note in part})
                    free_from.update({note: reading + ("",) for note in part})
                    is_made.update({note: True for note in part})
                    told += len(part)
            # What went into the bag unread goes nowhere later.
            unread_ones = [note for note in some if is_made[note]] if is_honest else []
            free_from.update({note: (99,) for note in unread_ones})
            many = told + (len(unread_ones) if is_honest else chance.choice(extras))
            pages[when] = bag(when, road[0], road[1], many) if many > 0 else count(when, road[1])
        else:
            pages[when] = count(when, road[1])
    if chance.random() < 0.3:
        # What a void names, and a read that waits, must not count for anything.
        pages[(8, 0, "a")] = move((8, 0, "a"), *chance.choice(office[1]), runs_from(chance.sample(notes, 3)))
        pages[(8, 1, "a")] = void((8, 1, "a"), (8, 0, "a"))
        pages[(9, 0, "a")] = read((9, 0, "a"), chance.choice(((8, 0, "a"), (8, 1, "a"), (9, 0, "a"))))
    return tuple(pages[when] for when in sorted(pages))


@functools.lru_cache(2000)
def bags_due(book):
    """The counted bags: their deeds by names, rising."""
    pages = dict(book)
    return {at: pages[at] for at in names_due(book, "counted") if pages[at][0] == "bag"}


def all_answers(office, book):
    """All that can be asked of where a note is: each counted bag, then each place."""
    return [("bag", at) for at in bags_due(book)] + [("at", place) for place in office_places(office)]


@functools.lru_cache(2000)
def unread_due(book):
    pages = dict(book)
    found = []
    for at, deed in bags_due(book).items():
        reads = [pages[by] for by in names_due(book, "counted") if pages[by][0] == "read" and pages[by][1] == at]
        found.append((at, deed[3] - sum(len(notes_of(other[2])) for other in reads)))
    return tuple(found)


@functools.lru_cache(2000)
def supplies_due(book):
    """The supplies, note by note: by names rising (the place, the notes)."""
    found = {}
    for note in ALL_NOTES:
        told = steps_due(book, note)
        if told:
            found.setdefault(told[-1][3], (told[-1][2], []))[1].append(note)
    return {at: found[at] for at in sorted(found)}


def can_lie_due(office, book, supply, at):
    stock, bags = supplies_due(book), bags_due(book)
    if supply not in stock or at not in bags:
        return False
    return supply < at and distances(office)[stock[supply][0], bags[at][1]] is not None


class UnreadTest(PlainCase):
    def test_no_bags(self):
        self.same((), unread, ())
        self.same((), unread, (move(name(1)), count(name(2)), read(name(3), name(1)), void(name(4), name(9))))

    def test_bags_with_and_without_reads(self):
        book = (bag(name(1)), bag(name(2), many=9), read(name(3), name(2), (("a", 0, 2), ("b", 5, 9))))
        self.same(((name(1), 4), (name(2), 3)), unread, book)
        book += (read(name(4), name(2), (("a", 2, 4),)), read(name(5), name(1), (("b", 0, 4),)))
        self.same(((name(1), 0), (name(2), 1)), unread, book)

    def test_below_0(self):
        book = (bag(name(2)), read(name(3), name(2), (("a", 0, 7),)))
        self.same(((name(2), -3),), unread, book)
        book = (bag(name(2), many=1), read(name(3), name(2), (("a", 0, TOP), ("b", 0, TOP))))
        self.same(((name(2), 1 - 2 * TOP),), unread, book)

    def test_several_reads_that_name_one_note_are_added(self):
        book = (bag(name(2), many=9), read(name(3), name(2)), read(name(4), name(2), (("a", 0, 3),)))
        self.same(((name(2), 1),), unread, book)

    def test_reads_ahead_of_their_bag_count(self):
        self.same(((name(2), 2),), unread, (read(name(1), name(2), (("a", 0, 2),)), bag(name(2))))

    def test_what_is_not_counted(self):
        book = (bag(name(1)), bag(name(2)), read(name(3), name(1)), read(name(4), name(2)), void(name(5), name(1)),
                void(name(6), name(4)))
        self.same(((name(2), 4),), unread, book)

    def test_rising_by_names(self):
        book = (bag(name(1, 5)), bag(name(1, 10)), bag(name(2)), bag(name(10)))
        self.same(tuple((at, 4) for at, deed in book), unread, book)


class SuppliesTest(PlainCase):
    def test_none(self):
        self.same((), supplies, OFFICE, ())
        self.same((), supplies, OFFICE, (bag(name(1)), count(name(2))))
        self.same(None, supply_of, (), ("a", 3))

    def test_some(self):
        book = (move(name(1), runs=(("a", 0, 9), ("b", 0, 2))), bag(name(2)), read(name(3), name(2), (("a", 0, 2),)),
                move(name(4), "bank", "post", (("a", 1, 2),)))
        self.same(((name(1), 9), (name(3), 1), (name(4), 1)), supplies, OFFICE, book)
        for note, due in ((("a", 0), name(3)), (("a", 1), name(4)), (("a", 2), name(1)), (("b", 1), name(1)),
                          (("b", 2), None), (("a", 9), None), (("c", 0), None)):
            self.same(due, supply_of, book, note)

    def test_refused_where_a_note_is_false(self):
        book = (move(name(1)), move(name(2), runs=(("a", 4, 6),)))
        self.refused(NoWorld, {"word": "false"}, supplies, OFFICE, book)
        self.same(name(2), supply_of, book, ("a", 4))
        self.same(name(1), supply_of, book, ("a", 3))

    def test_not_refused_else(self):
        # Unread ones below 0, and more of them than there can be: supplies are told all the same.
        over = (move(name(1)), bag(name(2), many=1), read(name(3), name(2), (("a", 0, 2),)))
        self.same(((name(1), 3), (name(3), 2)), supplies, OFFICE, over)
        short = (move(name(1)), bag(name(2), many=99))
        self.same(((name(1), 5),), supplies, OFFICE, short)

    def test_long_runs(self):
        book = (move(name(1), runs=(("a", 0, TOP), ("b", 0, TOP))), move(name(2), "press", "bank", (("a", 1, TOP),)))
        self.same(((name(1), TOP + 1), (name(2), TOP - 1)), supplies, OFFICE, book)


class CanLieTest(PlainCase):
    BOOK = (
        move(name(1)), bag(name(2)), bag(name(3), "bank", "post"), move(name(4), "press", "bank", (("a", 0, 2),)),
        bag(name(5)), bag(name(6), "bank", "post"), void(name(7), name(3)), bag(name(8), "post", "bank"),
    )

    def test_ahead_and_leading_there(self):
        for supply, at, due in (
            (name(1), name(2), True), (name(1), name(5), True), (name(1), name(6), True), (name(1), name(8), True),
            (name(4), name(2), False), (name(4), name(5), False), (name(4), name(6), True), (name(4), name(8), True),
        ):
            self.same(due, can_lie, OFFICE, self.BOOK, supply, at)

    def test_names_that_are_no_supplys_or_no_counted_bags(self):
        for supply in (name(0), name(2), name(7), name(1, 1), name(1, 0, "b")):
            self.same(False, can_lie, OFFICE, self.BOOK, supply, name(6))
        for at in (name(3), name(4), name(1), name(7), name(9), name(6, 1), name(99999, 999, "zzzzzzzz")):
            self.same(False, can_lie, OFFICE, self.BOOK, name(1), at)
        self.same(False, can_lie, OFFICE, (), name(1), name(2))
        # A page of which no note's last step is is no supply.
        book = (move(name(1)), move(name(2), "press", "bank"), bag(name(3)), bag(name(4), "bank", "post"))
        self.same(False, can_lie, OFFICE, book, name(1), name(3))
        self.same(True, can_lie, OFFICE, book, name(2), name(4))

    def test_a_reads_own_name_must_be_ahead(self):
        book = (bag(name(2)), bag(name(4), "bank", "post"), read(name(5), name(2)), bag(name(6), "bank", "post"))
        self.same(False, can_lie, OFFICE, book, name(5), name(2))
        self.same(False, can_lie, OFFICE, book, name(5), name(4))
        self.same(True, can_lie, OFFICE, book, name(5), name(6))

    def test_bags_without_unread_ones_too(self):
        book = (move(name(1)), bag(name(2), many=2), read(name(3), name(2), (("a", 0, 2),)))
        self.same(True, can_lie, OFFICE, book, name(1), name(2))

    def test_never_refused(self):
        twice = (move(name(1)), move(name(2)), bag(name(3)))
        self.same(True, can_lie, OFFICE, twice, name(2), name(3))
        self.same(False, can_lie, OFFICE, twice, name(1), name(3))
        over = (move(name(1)), bag(name(2), many=1), read(name(3), name(2), (("a", 0, 2),)))
        self.same(True, can_lie, OFFICE, over, name(1), name(2))

    def test_a_place_that_does_not_come_there(self):
        office = (WORTHS, (("bank", "post"), ("none", "press"), ("press", "bank"), ("press", "mint")))
        book = (move(name(1)), move(name(2), "press", "mint", (("a", 0, 1),)), bag(name(3), "bank", "post"))
        self.same(True, can_lie, office, book, name(1), name(3))
        self.same(False, can_lie, office, book, name(2), name(3))


class RandomTest(PlainCase):
    def test_against_notes_one_by_one(self):
        chance = random.Random(181)
        seen = {"false": 0, "true": 0, "lie": 0, "below": 0}
        for at in range(250):
            office = random_office(chance)
            book = random_book(chance, 14, office[1]) if at % 2 else true_book(chance, office)
            due = unread_due(book)
            seen["below"] += any(many < 0 for when, many in due)
            self.same(due, unread, book)
            stock = supplies_due(book)
            if any(is_false_due(office, book, note) for note in ALL_NOTES):
                seen["false"] += 1
                self.refused(NoWorld, {"word": "false"}, supplies, office, book)
            else:
                seen["true"] += len(stock) > 1
                self.same(tuple((when, len(stock[when][1])) for when in stock), supplies, office, book)
            for note in chance.sample(ALL_NOTES, 8):
                told = [when for when in stock if note in stock[when][1]]
                self.same(told[0] if told else None, supply_of, book, note)
            for supply in list(stock) + [when for when, deed in book][:4]:
                for when in list(bags_due(book)) + [name(3), name(70)]:
                    lies = can_lie_due(office, book, supply, when)
                    seen["lie"] += lies
                    self.same(lies, can_lie, office, book, supply, when)
        self.assertGreater(min(seen.values()), 10, seen)

    def test_true_books(self):
        chance = random.Random(182)
        for at in range(200):
            office = random_office(chance, always=ALWAYS if at % 2 else ())
            book = true_book(chance, office)
            self.assertFalse(any(is_false_due(office, book, note) for note in ALL_NOTES))
