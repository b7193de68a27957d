"""How many notes of some runs can be in a bag: points [57] and [64]."""

import itertools
import random

from pressnotes.errors import NoWorld
from pressnotes.manychecker import lets_least, lets_most
from pressnotes.manyin import least_in, most_in
from tests import test_filling
from tests.support import TOP, PlainCase, notes_of, random_office, runs_from
from tests.test_bags import ALWAYS, SOME_NOTES, bags_due, true_book, unread_due
from tests.test_books import bag, move, name, read, void
from tests.test_fillchecker import BOOK
from tests.test_filling import REFUSED, choices_due, has_world, random_refused
from tests.test_manychecker import RUNS, many_due
from tests.test_offices import OFFICE, WORTHS


def sums_due(office, book, worth):
    """All sums that the worlds have: worth(note, bag) of each note that is an unread one of a bag, added."""
    choices = choices_due(office, book)
    want = unread_due(book)
    found = {(tuple(0 for _ in want), 0)}
    for note in choices:
        more = set()
        for way, total in found:
            for choice in choices[note]:
                laid = tuple(many + (at == choice) for many, (at, due) in zip(way, want))
                if all(many <= due for many, (at, due) in zip(laid, want)):
                    more.add((laid, total + (0 if choice is None else worth(note, choice))))
        found = more
    return sorted(total for way, total in found if way == tuple(many for at, many in want))


def numbers_due(office, book, runs, at):
    """All numbers of the RUNS' notes that worlds have in the bag."""
    some = set(notes_of(runs))
    return sums_due(office, book, lambda note, choice: int(note in some and choice == at))


class ManyInCase(PlainCase):
    def told_papers(self, least, most, book, runs, at, office=OFFICE):
        """These numbers are told, with papers that are let by and show them."""
        for due, ask, lets in ((least, least_in, lets_least), (most, most_in, lets_most)):
            told = self.ask(ask, office, book, runs, at)
            self.assertIs(tuple, type(told))
            number, paper = told
            self.assertIs(int, type(number))
            self.assertEqual(due, number, (office, book, runs, at))
            self.same(number, lets, office, book, runs, at, paper)
        return least_in(office, book, runs, at)[1], most_in(office, book, runs, at)[1]

    def is_told(self, least, most, book, runs, at, office=OFFICE):
        """The same, of books whose notes can be counted: by all worlds, too."""
        self.assertEqual(list(range(least, most + 1)), numbers_due(office, book, runs, at), (office, book, runs, at))
        papers = self.told_papers(least, most, book, runs, at, office)
        self.assertEqual(("told", least), many_due(office, book, "least", runs, at, papers[0]))
        self.assertEqual(("told", most), many_due(office, book, "most", runs, at, papers[1]))
        return papers

    def is_refused(self, word, book, runs, at, office=OFFICE):
        for ask in (most_in, least_in):
            self.refused(NoWorld, {"word": word}, ask, office, book, runs, at)


class ManyInTest(ManyInCase):
    def test_ordinary_ones(self):
        self.is_told(1, 3, BOOK, RUNS, name(5))
        self.is_told(0, 1, BOOK, RUNS, name(2))
        self.is_told(2, 3, BOOK, (("a", 0, 3),), name(5))
        self.is_told(0, 1, BOOK, (("a", 3, 5),), name(5))
        self.is_told(1, 1, BOOK, (("a", 3, 5),), name(2))

    def test_no_runs_and_all_notes(self):
        for at, many in ((name(2), 1), (name(5), 3), (name(6), 0)):
            self.is_told(0, 0, BOOK, (), at)
            self.is_told(many, many, BOOK, (("a", 0, 14), ("b", 0, 14)), at)
            self.is_told(many, many, BOOK, (("a", 0, 5), ("b", 0, 2)), at)

    def test_notes_without_a_step_are_in_no_bag(self):
        for runs in ((("a", 5, 14),), (("c", 0, 4),), (("a", 5, 6), ("b", 2, 9), ("d", 0, 3))):
            self.is_told(0, 0, BOOK, runs, name(5))
        self.told_papers(0, 0, BOOK, (("a", 5, TOP), ("b", 2, TOP), ("c", 0, TOP)), name(5))

    def test_a_bag_without_unread_ones(self):
        least, most = self.is_told(0, 0, BOOK, RUNS, name(6))
        self.assertIs(None, least[1])
        self.assertIs(None, most[1])

    def test_no_bag_has_unread_ones(self):
        book = (move(name(1)), bag(name(2), many=2), read(name(3), name(2), (("a", 0, 2),)))
        self.same((0, ((), None)), most_in, OFFICE, book, (("a", 0, 5),), name(2))
        self.same((0, ((), None)), least_in, OFFICE, book, (("a", 0, 5),), name(2))

    def test_other_bags_need_them(self):
        book = (move(name(1), runs=(("a", 0, 3),)), bag(name(2), many=2), move(name(3), runs=(("b", 0, 3),)),
                bag(name(4), many=3))
        least, most = self.is_told(0, 1, book, (("a", 0, 3),), name(4))
        self.assertEqual((name(2),), most[1])
        least, most = self.is_told(2, 3, book, (("b", 0, 3),), name(4))
        self.assertEqual((name(2),), least[1])

    def test_handed_on_through_several_bags(self):
        forked = test_filling.FilledTest().forked
        fork = test_filling.FilledTest.FORK
        # For p's notes in d's bag those of q must go to e's, and r's stay out.
        book = forked((4, 4, 4), (2, 2, 2))
        self.told_papers(0, 2, book, (("a", 0, 4),), name(4), fork)
        self.told_papers(0, 2, book, (("a", 100, 104),), name(5), fork)
        book = forked((3, 3, 3), (3, 3, 2))
        least, most = self.told_papers(0, 1, book, (("a", 0, 3),), name(4), fork)
        self.assertEqual((name(6),), most[1])
        least, most = self.told_papers(2, 3, book, (("a", 100, 103),), name(4), fork)
        self.assertEqual((name(6),), least[1])
        self.told_papers(0, 1, book, (("a", 100, 103),), name(5), fork)
        self.told_papers(2, 3, book, (("a", 200, 203),), name(5), fork)

    def test_a_supply_in_part_of_the_runs(self):
        book = (move(name(1), runs=(("a", 0, 5),)), bag(name(2), many=3), bag(name(4), many=1))
        for size, least, most in ((0, 0, 0), (1, 0, 1), (2, 0, 2), (3, 1, 3), (4, 2, 3), (5, 3, 3)):
            self.is_told(least, most, book, (("a", 0, size),) if size else (), name(2))

    def test_refusals_in_their_order(self):
        for word, book in REFUSED:
            for at in bags_due(book):
                for runs in ((), (("a", 0, 5),)):
                    self.is_refused(word, book, runs, at)

    def test_great_numbers(self):
        book = (
            move(name(1), runs=(("a", 0, TOP),)), bag(name(2), many=TOP // 2), bag(name(3), "bank", "post", TOP // 2),
            move(name(4), "press", "bank", (("b", 0, TOP),)), bag(name(5), "post", "bank", TOP - 1),
            bag(name(6), "bank", "post", 1),
        )
        self.told_papers(0, TOP // 2, book, (("a", 0, TOP // 2),), name(2))
        self.told_papers(TOP // 2, TOP // 2, book, (("a", 0, TOP),), name(2))
        self.told_papers(TOP - 1, TOP - 1, book, (("b", 0, TOP),), name(5))
        self.told_papers(TOP - 11, TOP - 10, book, (("b", 10, TOP),), name(5))
        self.told_papers(0, 1, book, (("b", 10, TOP),), name(6))
        book = tuple(move(name(at), runs=(("a", at * 1000, at * 1000 + 999),)) for at in range(30))
        book += tuple(bag(name(40, at), many=3 * 999 + at % 2) for at in range(8))
        self.told_papers(0, 2997, book, (("a", 0, 5000),), name(40))
        self.told_papers(0, 2998, book, (("a", 0, 5000),), name(40, 7))

    def test_void_and_waiting_pages(self):
        book = (move(name(1)), bag(name(2), many=2), bag(name(3), many=9), void(name(4), name(3)),
                read(name(5), name(3), (("a", 0, 2),)))
        self.is_told(0, 2, book, (("a", 0, 2),), name(2))

    def test_what_is_told_may_be_asked_again(self):
        told = [most_in(OFFICE, BOOK, RUNS, name(5)) for _ in range(2)]
        self.same(3, lets_most, OFFICE, BOOK, RUNS, name(5), told[0][1])
        self.same(3, lets_most, OFFICE, BOOK, RUNS, name(5), told[1][1])


class RandomTest(ManyInCase):
    def test_against_all_worlds(self):
        chance = random.Random(251)
        seen = {"short": 0, "between": 0, "bound": 0, "bags": 0, "spent": 0}
        for _ in range(320):
            office = random_office(chance, most=4, always=ALWAYS)
            book = true_book(chance, office, 12)
            bags = bags_due(book)
            if not bags:
                continue
            runs = runs_from(chance.sample(SOME_NOTES, chance.randint(0, 8)))
            if not has_world(office, book):
                self.is_refused("short", book, runs, chance.choice(list(bags)), office)
                seen["short"] += 1
                continue
            for at in bags:
                due = numbers_due(office, book, runs, at)
                papers = self.is_told(due[0], due[-1], book, runs, at, office)
                seen["between"] += len(due) > 1
                seen["spent"] += dict(unread_due(book))[at] == 0
                seen["bound"] += any(bound is not None for rows, bound in papers)
                seen["bags"] += any(bound for rows, bound in papers)
        self.assertGreater(min(seen.values()), 5, seen)

    def test_few_notes_and_many_bags(self):
        chance = random.Random(252)
        seen = {"between": 0, "bags": 0}
        for _ in range(800):
            roads = [("none", place) for place in "pqr"]
            roads += [pair for pair in itertools.combinations("pqrdex", 2) if chance.random() < 0.3]
            office = (WORTHS, tuple(sorted(roads)))
            bag_roads = [road for road in roads if road[0] != "none"]
            if not bag_roads:
                continue
            book = [move(name(at), "none", chance.choice("pqr"), (("a", 2 * at, 2 * at + chance.randint(1, 2)),))
                    for at in range(5)]
            book += [bag(name(9, at), *chance.choice(bag_roads), chance.choice((1, 2, 3))) for at in range(4)]
            book = tuple(book)
            if not has_world(office, book):
                continue
            for at in bags_due(book):
                some = [number for start in chance.sample(range(5), 2) for number in (2 * start, 2 * start + 1)]
                runs = runs_from([("a", number) for number in some if chance.random() < 0.9])
                due = numbers_due(office, book, runs, at)
                papers = self.is_told(due[0], due[-1], book, runs, at, office)
                seen["between"] += len(due) > 1
                seen["bags"] += any(bound for rows, bound in papers)
        self.assertGreater(min(seen.values()), 15, seen)

    def test_refusals_of_random_books(self):
        words = {"false": 0, "over": 0}
        for word, office, book in random_refused(random.Random(253), 400):
            for at in bags_due(book):
                words[word] += 1
                self.is_refused(word, book, (("a", 0, 3),), at, office)
        self.assertGreater(min(words.values()), 5, words)
