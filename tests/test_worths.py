"""What all unread notes are worth: points [57] and [66]."""

import random

from pressnotes.errors import NoWorld
from pressnotes.worthchecker import lets_worth
from pressnotes.worths import worth_between, worth_papers
from tests import test_filling
from tests.support import TOP, PlainCase, random_office
from tests.test_bags import ALWAYS, true_book
from tests.test_books import bag, move, name, read, void
from tests.test_fillchecker import wanted_due
from tests.test_filling import REFUSED, has_world, random_refused
from tests.test_manyin import sums_due
from tests.test_offices import OFFICE, ROADS
from tests.test_worthchecker import BOOK, FOUR, NOTES_OF_FOUR, worth_due


class WorthsCase(PlainCase):
    def told_papers(self, least, most, book, office):
        """These worths are told, and papers that are let by and show them."""
        self.same((least, most), worth_between, office, book)
        told = self.ask(worth_papers, office, book)
        self.assertIs(tuple, type(told))
        self.assertEqual(2, len(told))
        self.same(least, lets_worth, office, book, "least", told[0])
        self.same(most, lets_worth, office, book, "most", told[1])
        return told

    def is_told(self, least, most, book, office=FOUR):
        """The same, of books whose notes can be counted: by all worlds, too."""
        worths = dict(office[0])
        due = sums_due(office, book, lambda note, choice: worths[note[0]])
        self.assertEqual((least, most), (due[0], due[-1]), (office, book))
        told = self.told_papers(least, most, book, office)
        self.assertEqual(("told", least), worth_due(office, book, "least", told[0]))
        self.assertEqual(("told", most), worth_due(office, book, "most", told[1]))
        return told

    def is_refused(self, word, book, office=OFFICE):
        self.refused(NoWorld, {"word": word}, worth_between, office, book)
        self.refused(NoWorld, {"word": word}, worth_papers, office, book)


class WorthsTest(WorthsCase):
    def test_ordinary_ones(self):
        self.is_told(27, 40, BOOK)

    def test_nothing_unread(self):
        book = (move(name(1)), bag(name(2), many=2), read(name(3), name(2), (("a", 0, 2),)))
        for some in ((), (move(name(1)),), book):
            self.assertEqual((((), ((), ())), ((), ((), ()))), self.is_told(0, 0, some))

    def test_one_worth_alone(self):
        office = ((("a", 7), ("b", 7), ("c", 7), ("d", 7)), ROADS)
        for paper in self.is_told(35, 35, BOOK, office):
            self.assertEqual((), paper[1])
        office = ((("a", 3),), ROADS)
        for paper in self.is_told(12, 12, (move(name(1)), bag(name(2))), office):
            self.assertEqual((((name(1), name(2), "a", 4),), ()), paper)

    def test_two_series_of_one_worth(self):
        office = ((("a", 4), ("b", 9), ("c", 4)), ROADS)
        book = (move(name(1), runs=(("a", 0, 2), ("b", 0, 2), ("c", 0, 2))), bag(name(2), many=3))
        self.is_told(12, 22, book, office)
        book = (move(name(1), runs=(("a", 0, 2), ("b", 0, 2), ("c", 0, 2))), bag(name(2), many=5))
        self.is_told(25, 30, book, office)

    def test_series_that_no_note_has(self):
        office = ((("a", 4), ("b", 9), ("c", 100), ("d", 1)), ROADS)
        book = (move(name(1), runs=(("a", 0, 2), ("b", 0, 2))), bag(name(2), many=3))
        self.is_told(17, 22, book, office)

    def test_bags_that_only_some_can_fill(self):
        # The dear ones come late: the bag of day 2 has cheap ones alone.
        book = (move(name(1), runs=(("a", 0, 3),)), bag(name(2), many=2), move(name(3), runs=(("b", 0, 3),)),
                bag(name(4), many=3))
        self.is_told(35, 40, book)

    def test_handed_on_through_several_bags(self):
        forked = test_filling.FilledTest().forked
        roads = test_filling.FilledTest.FORK[1]
        book = forked((2, 2, 2), (2, 2, 2))
        self.told_papers(30, 30, book, ((("a", 5), ("b", 10)), roads))
        # q's notes are the dear ones, then r's: d's bag has to be filled by p's or q's.
        rest = book[3:]
        book = (move(name(1), "none", "p", (("a", 0, 4),)), move(name(2), "none", "q", (("b", 0, 3),)),
                move(name(3), "none", "r", (("c", 0, 4),))) + rest
        self.is_told(4 * 1 + 2 * 5, 2 * 1 + 3 * 20 + 1 * 5, book, ((("a", 1), ("b", 20), ("c", 5)), roads))
        self.is_told(4 * 1 + 2 * 5, 4 * 1 + 2 * 5, book[:1] + book[2:], ((("a", 1), ("c", 5)), roads))

    def test_refusals_in_their_order(self):
        for word, book in REFUSED:
            self.is_refused(word, book)

    def test_great_numbers(self):
        office = ((("a", 1), ("b", 1000000), ("c", 3)), ROADS)
        book = (
            move(name(1), runs=(("a", 0, TOP), ("b", 0, 10))), bag(name(2), many=TOP // 2),
            bag(name(3), "bank", "post", TOP // 2), move(name(4), "press", "bank", (("c", 0, TOP),)),
            bag(name(5), "post", "bank", TOP - 1), bag(name(6), "bank", "post", 1), void(name(7), name(4)),
        )
        self.is_refused("short", book, office)
        book = book[:-1]
        self.told_papers(4 * TOP, 10 ** 7 + TOP - 10 + 3 * TOP, book, office)
        book = tuple(move(name(at), runs=(("abc"[at % 3], at * 1000, at * 1000 + 999),)) for at in range(30))
        book += tuple(bag(name(40, at), many=2500) for at in range(8))
        self.told_papers(9990 * 4 + 20 * 10 ** 6, 9990 * 1000003 + 20, book, office)

    def test_void_and_waiting_pages(self):
        book = (move(name(1), runs=(("a", 0, 3), ("b", 0, 2))), bag(name(2), many=2), bag(name(3), many=9),
                void(name(4), name(3)), read(name(5), name(3), (("a", 0, 2),)))
        self.is_told(10, 20, book)


class RandomTest(WorthsCase):
    def test_against_all_worlds(self):
        chance = random.Random(271)
        seen = {"short": 0, "unlike": 0, "alike": 0, "bags": 0}
        for _ in range(260):
            worths = tuple((series, chance.choice((1, 2, 5, 9))) for series in "abcd")
            office = (worths, random_office(chance, most=4, always=ALWAYS)[1])
            book = true_book(chance, office, 12, notes=tuple(NOTES_OF_FOUR))
            if not wanted_due(book):
                continue
            if not has_world(office, book):
                seen["short"] += 1
                self.is_refused("short", book, office)
                continue
            values = dict(worths)
            due = sums_due(office, book, lambda note, choice: values[note[0]])
            papers = self.is_told(due[0], due[-1], book, office)
            seen["unlike" if due[0] < due[-1] else "alike"] += 1
            seen["bags"] += len(wanted_due(book)) > 1 and any(names for rows, sets in papers for names in sets)
        self.assertGreater(min(seen.values()), 8, seen)

    def test_few_notes_and_many_bags(self):
        chance = random.Random(272)
        seen = {"unlike": 0, "alike": 0}
        for _ in range(400):
            roads = [("none", place) for place in "pqr"]
            roads += [(one, other) for one in "pqrd" for other in "pqrdex" if one != other and chance.random() < 0.2]
            worths = tuple((series, chance.choice((1, 2, 5, 9))) for series in "abcd")
            office = (worths, tuple(sorted(set(roads))))
            bag_roads = [road for road in roads if road[0] != "none"]
            if not bag_roads:
                continue
            pairs = ("cd", "cd", "cd", "cd", "ab", "ab")
            book = [move(name(at), "none", chance.choice("pqr"), tuple((series, at % 4, at % 4 + 1) for series in pair))
                    for at, pair in enumerate(pairs)]
            book += [bag(name(9, at), *chance.choice(bag_roads), chance.randint(1, 3)) for at in range(4)]
            book = tuple(book)
            if not has_world(office, book):
                continue
            values = dict(worths)
            due = sums_due(office, book, lambda note, choice: values[note[0]])
            self.is_told(due[0], due[-1], book, office)
            seen["unlike" if due[0] < due[-1] else "alike"] += 1
        self.assertGreater(min(seen.values()), 8, seen)

    def test_refusals_of_random_books(self):
        words = {"false": 0, "over": 0}
        for word, office, book in random_refused(random.Random(273), 400):
            words[word] += 1
            self.is_refused(word, book, office)
        self.assertGreater(min(words.values()), 5, words)
