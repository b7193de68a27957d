"""Bags filled: points [56], [57] and [60]."""

import itertools
import random

from pressnotes.errors import NoWorld
from pressnotes.fillchecker import lets_filling, lets_short
from pressnotes.filling import filled
from tests.support import TOP, PlainCase, random_office
from tests.test_bags import ALWAYS, bags_due, can_lie_due, supplies_due, true_book, unread_due
from tests.test_books import bag, move, name, random_book, read, void
from tests.test_falsehoods import ends_of_walks, is_false_due
from tests.test_fillchecker import filling_due, short_due, wanted_due
from tests.test_offices import OFFICE, WORTHS
from tests.test_steps import ALL_NOTES, steps_due


def choices_due(office, book):
    """For each note with steps the bags of which it can be an unread one, and None for none: by walks alone."""
    found = {}
    for note in ALL_NOTES:
        if steps_due(book, note):
            bags = [at for at in bags_due(book) if ends_of_walks(office, book, note, at)]
            found[note] = bags + [None]
    return found


def ways_to_lie(book, choices, notes):
    """All tuples of how many of these notes lie in each counted bag, over all worlds' ways to lay them."""
    want = unread_due(book)
    found = {tuple(0 for _ in want)}
    for note in notes:
        more = set()
        for way in found:
            for choice in choices[note]:
                laid = tuple(many + (at == choice) for many, (at, due) in zip(way, want))
                if all(many <= due for many, (at, due) in zip(laid, want)):
                    more.add(laid)
        found = more
    return found


def has_world(office, book):
    """Whether a world of the book is there, all of them gone through."""
    choices = choices_due(office, book)
    return tuple(many for at, many in unread_due(book)) in ways_to_lie(book, choices, list(choices))


def all_fillings(office, book, most=3000):
    """All FILLINGS of a book; None where there would be too many things to go through."""
    want = wanted_due(book)
    stock = supplies_due(book)
    pairs = [(one, other) for one in stock for other in want if can_lie_due(office, book, one, other)]
    sizes = [min(len(stock[one][1]), want[other]) + 1 for one, other in pairs]
    total = 1
    for size in sizes:
        total *= size
    if total > most:
        return None
    found = []
    for many in itertools.product(*[range(size) for size in sizes]):
        thing = sorted(pair + (some,) for pair, some in zip(pairs, many) if some)
        if any(sum(some for one, other, some in thing if one == at) > len(stock[at][1]) for at in stock):
            continue
        if all(sum(some for one, other, some in thing if other == at) == want[at] for at in want):
            found.append(tuple(thing))
    return found


FALSE = (move(name(1)), move(name(2)))
OVER = (bag(name(3), many=1), read(name(4), name(3), (("b", 0, 2),)))
SHORT = (bag(name(5), many=99),)
# Books of which no world is told, with the word that goes ahead.
REFUSED = tuple(("false", FALSE + more) for more in ((), OVER, SHORT, OVER + SHORT)) + (
    ("over", OVER), ("over", OVER + SHORT), ("over", FALSE[:1] + OVER + SHORT), ("short", SHORT),
    ("short", FALSE[:1] + SHORT),
)


def random_refused(chance, many):
    """Random offices and books by which a note is false or a bag over, with the word that is due."""
    for at in range(many):
        office = random_office(chance, most=4, always=ALWAYS)
        book = random_book(chance, 8, office[1]) if at % 2 else true_book(chance, office, 12, (-1, 0, 1))
        if any(is_false_due(office, book, note) for note in ALL_NOTES):
            yield ("false", office, book)
        elif any(unread_many < 0 for when, unread_many in unread_due(book)):
            yield ("over", office, book)


class FilledTest(PlainCase):
    def is_filled(self, book, office=OFFICE):
        told = self.ask(filled, office, book)
        self.assertIs(tuple, type(told))
        word, thing = told
        self.assertEqual("filled", word)
        self.same(True, lets_filling, office, book, thing)
        return thing

    def is_short(self, book, office=OFFICE):
        told = self.ask(filled, office, book)
        self.assertIs(tuple, type(told))
        word, thing = told
        self.assertEqual("short", word)
        self.same(True, lets_short, office, book, thing)
        return thing

    def test_nothing_to_fill(self):
        spent = (move(name(1)), bag(name(2), many=2), read(name(3), name(2), (("a", 0, 2),)))
        for book in ((), (move(name(1)),), spent):
            self.same(("filled", ()), filled, OFFICE, book)

    def test_one_way_alone(self):
        book = (move(name(1)), bag(name(2), many=4))
        self.same(("filled", ((name(1), name(2), 4),)), filled, OFFICE, book)
        book = (move(name(1)), bag(name(2), many=2), move(name(3), "press", "bank", (("a", 0, 3),)),
                bag(name(4), "bank", "post", 3))
        self.same(("filled", ((name(1), name(2), 2), (name(3), name(4), 3))), filled, OFFICE, book)

    def test_notes_must_be_handed_on(self):
        # Filled in whatever order, the supply that both bags can take must be kept for the one that has no other.
        book = (
            move(name(1), runs=(("a", 0, 2),)), move(name(2), "press", "bank", (("b", 0, 2),)), bag(name(3), many=2),
            bag(name(4), "bank", "post", 2),
        )
        self.assertEqual(((name(1), name(3), 2), (name(2), name(4), 2)), self.is_filled(book))
        book = (
            move(name(1), runs=(("a", 0, 2),)), bag(name(3), "bank", "post", 2),
            move(name(4), "press", "bank", (("b", 0, 2),)), bag(name(6), "post", "bank", 2),
        )
        self.assertEqual(((name(1), name(3), 2), (name(4), name(6), 2)), self.is_filled(book))
        office = (WORTHS, (("bank", "mint"), ("bank", "post"), ("none", "bank"), ("none", "press"), ("press", "bank")))
        book = (
            move(name(1), "none", "bank", (("a", 0, 3),)), move(name(2), runs=(("b", 0, 3),)),
            bag(name(3), "bank", "post", 3), bag(name(4), "press", "bank", 3),
        )
        self.assertEqual(((name(1), name(3), 3), (name(2), name(4), 3)), self.is_filled(book, office))

    # Each place of three, p, q and r, comes to some of d and e alone; bags go from d, from e, and from p itself.
    FORK = (WORTHS, (
        ("d", "x"), ("e", "x"), ("none", "p"), ("none", "q"), ("none", "r"), ("p", "d"), ("q", "d"), ("q", "e"),
        ("r", "e"),
    ))

    def forked(self, sizes, wants):
        """Supplies of days 1 to 3 at p, q and r, and bags of days 4 to 6 from d, e and p, of so many notes."""
        made = [move(name(at + 1), "none", "pqr"[at], (("a", 100 * at, 100 * at + sizes[at]),)) for at in range(3)]
        return tuple(made) + (
            bag(name(4), "d", "x", wants[0]), bag(name(5), "e", "x", wants[1]), bag(name(6), "p", "d", wants[2]))

    def test_notes_are_handed_on_through_several_bags(self):
        # Taken as they come, p's notes go to d and q's to e: both must change for the last bag, that only p can fill.
        self.assertEqual(
            ((name(1), name(6), 2), (name(2), name(4), 2), (name(3), name(5), 2)),
            self.is_filled(self.forked((2, 2, 2), (2, 2, 2)), self.FORK))
        self.assertEqual(
            ((name(1), name(6), 9), (name(2), name(4), 7), (name(3), name(5), 8)),
            self.is_filled(self.forked((9, 7, 8), (7, 8, 9)), self.FORK))
        for sizes, wants in (((9, 9, 9), (8, 8, 8)), ((5, 9, 3), (6, 4, 5)), ((3, 6, 2), (4, 3, 2))):
            self.is_filled(self.forked(sizes, wants), self.FORK)

    def test_short_through_several_bags(self):
        # No fewer bags than all three show it here.
        self.assertEqual((name(4), name(5), name(6)), self.is_short(self.forked((2, 2, 2), (2, 3, 2)), self.FORK))
        self.is_short(self.forked((2, 2, 2), (3, 2, 2)), self.FORK)
        self.assertEqual((name(6),), self.is_short(self.forked((2, 9, 9), (2, 2, 3)), self.FORK))
        self.assertEqual((name(5),), self.is_short(self.forked((9, 2, 2), (1, 5, 1)), self.FORK))

    def test_short(self):
        self.assertEqual((name(2),), self.is_short((move(name(1)), bag(name(2), many=6))))
        self.assertEqual((name(2),), self.is_short((bag(name(2), many=1), move(name(3)))))
        self.assertEqual((name(2), name(3)), self.is_short((move(name(1)), bag(name(2), many=3), bag(name(3), many=3))))
        # The bag of day 5 has its own notes and is none of those that are short.
        book = (move(name(1)), bag(name(2), many=3), bag(name(3), many=3), move(name(4), runs=(("b", 0, 9),)),
                bag(name(5), many=4))
        self.assertEqual((name(2), name(3)), self.is_short(book))

    def test_false_goes_ahead_of_over(self):
        for word, book in REFUSED:
            if word != "short":
                self.refused(NoWorld, {"word": word}, filled, OFFICE, book)
            else:
                self.is_short(book)
        self.is_filled(FALSE[:1])

    def test_voided_reads_are_not_over(self):
        book = (move(name(1)), bag(name(3), many=1), read(name(4), name(3), (("b", 0, 2),)), void(name(5), name(4)))
        self.assertEqual(((name(1), name(3), 1),), self.is_filled(book))

    def test_great_numbers(self):
        book = (
            move(name(1), runs=(("a", 0, TOP),)), bag(name(2), many=TOP // 2), bag(name(3), "bank", "post", TOP // 2),
            move(name(4), "press", "bank", (("b", 0, TOP),)), bag(name(5), "post", "bank", TOP - 1),
            bag(name(6), "bank", "post", 1),
        )
        self.is_filled(book)
        self.is_short(book + (bag(name(7), many=1),))
        book = tuple(move(name(at), runs=(("a", at * 1000, at * 1000 + 999),)) for at in range(30))
        book += tuple(bag(name(40, at), many=3 * 999 + at % 2) for at in range(8))
        self.is_filled(book)
        self.is_short(book[:-1] + (bag(name(40, 7), many=30 * 999 - 7 * 3 * 999 - 3 + 1),))
        self.is_filled(book[:-1] + (bag(name(40, 7), many=30 * 999 - 7 * 3 * 999 - 3),))

    def test_against_all_worlds(self):
        chance = random.Random(211)
        words = {"filled": 0, "short": 0, "many": 0}
        for _ in range(400):
            office = random_office(chance, most=4, always=ALWAYS)
            book = true_book(chance, office, 12)
            want = wanted_due(book)
            if not want:
                continue
            word, thing = self.ask(filled, office, book)
            words[word] += 1
            words["many"] += word == "filled" and len(thing) > 1
            self.assertEqual("filled" if has_world(office, book) else "short", word)
            fillings = all_fillings(office, book)
            if word == "filled":
                self.assertEqual(("told", True), filling_due(office, book, thing))
                self.same(True, lets_filling, office, book, thing)
                self.assertTrue(fillings is None or thing in fillings)
            else:
                self.assertEqual(("told", True), short_due(office, book, thing))
                self.same(True, lets_short, office, book, thing)
                self.assertTrue(fillings is None or fillings == [])
        self.assertGreater(min(words.values()), 20, words)

    def test_many_places_against_all_worlds(self):
        chance = random.Random(213)
        words = {"filled": 0, "short": 0}
        for _ in range(300):
            roads = [("none", place) for place in "pqr"]
            roads += [pair for pair in itertools.combinations("pqrdex", 2) if chance.random() < 0.4]
            office = (WORTHS, tuple(sorted(roads)))
            bag_roads = [road for road in roads if road[0] != "none"]
            if not bag_roads:
                continue
            book = [move(name(at), "none", chance.choice("pqr"), (("a", 2 * at, 2 * at + chance.randint(1, 2)),))
                    for at in range(5)]
            book += [bag(name(9, at), *chance.choice(bag_roads), chance.randint(1, 2)) for at in range(4)]
            book = tuple(book)
            word, thing = self.ask(filled, office, book)
            words[word] += 1
            self.assertEqual("filled" if has_world(office, book) else "short", word)
            due = filling_due(office, book, thing) if word == "filled" else short_due(office, book, thing)
            self.assertEqual(("told", True), due)
        self.assertGreater(min(words.values()), 20, words)

    def test_refusals_of_random_books(self):
        words = {"false": 0, "over": 0}
        for word, office, book in random_refused(random.Random(212), 400):
            words[word] += 1
            self.refused(NoWorld, {"word": word}, filled, office, book)
        self.assertGreater(min(words.values()), 5, words)
