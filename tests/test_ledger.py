"""A ledger: points [76] and [77]."""

import random

from pressnotes.books import book_of
from pressnotes.errors import NoBack, NoNumber, NoPage
from pressnotes.ledger import Ledger
from tests.support import BIG, JUNK, PlainCase, only_lists_for_tuples, only_truths_for_numbers, variants
from tests.test_books import bag, count, move, name, random_book, read, void
from tests.test_offices import OFFICE, WORTHS
from tests.test_pages import PAGES, page_like


class LedgerCase(PlainCase):
    def ledger(self, *pages, office=OFFICE):
        made = Ledger(office)
        for page in pages:
            self.assertEqual("new", made.tell(page))
        return made

    def stands(self, pages, ledger):
        """The ledger has just these tellings, in this order."""
        for _ in range(2):
            self.same(len(pages), ledger.told)
            self.same(tuple(sorted(pages)), ledger.book)
            for k in range(len(pages) + 1):
                self.same(tuple(sorted(pages[:k])), ledger.then, k)

    def refuses(self, word, at, ledger, thing, pages):
        self.refused(NoPage, {"word": word, "name": at}, ledger.tell, thing)
        self.stands(pages, ledger)


class TellTest(LedgerCase):
    def test_new_and_again(self):
        pages = [bag(name(2)), move(name(1)), read(name(1, 1), name(2)), void(name(0), name(9)), count(name(5))]
        ledger = Ledger(OFFICE)
        self.stands([], ledger)
        for k, page in enumerate(pages):
            self.assertEqual("new", ledger.tell(page))
            self.stands(pages[:k + 1], ledger)
            for other in pages[:k + 1]:
                self.assertEqual("again", ledger.tell(other))
                self.assertEqual("again", ledger.tell(tuple(list(other))))
            self.stands(pages[:k + 1], ledger)

    def test_another_page_of_the_name(self):
        pages = [move(name(1)), bag(name(2))]
        ledger = self.ledger(*pages)
        for page in (bag(name(1)), void(name(1), name(1)), move(name(1), runs=(("a", 0, 4),)),
                     move(name(1), "press", "bank")):
            self.refuses("other", name(1), ledger, page, pages)
        self.refuses("other", name(2), ledger, bag(name(2), many=5), pages)

    def test_no_page_goes_ahead(self):
        pages = [move(name(1)), bag(name(2))]
        ledger = self.ledger(*pages)
        for thing in (
            None, True, 0, "", (), [], "1.0.a move none press a:0-4", list(move(name(1))), (name(1),), (name(1), None),
            (name(1), ()), (name(1), ("move",)), move(name(1), "press", "none"), move(name(1), runs=()),
            move(name(1), runs=(("c", 0, 1),)), bag(name(2), "none", "press"), bag(name(2), many=True),
            bag(name(2), many=0),
            count(name(2), "mint"), ((True, 0, "a"), move(name(1))[1]), ((1, False, "a"), move(name(1))[1]),
            move(name(3), "none", "bank"), (list(name(1)), move(name(1))[1]), tuple(pages),
        ):
            self.refuses("kind", None, ledger, thing, pages)

    def test_any_thing(self):
        for page in PAGES:
            ledger = self.ledger(page)
            for thing in list(JUNK) + list(variants(page)):
                if not page_like(OFFICE, thing):
                    self.refused(NoPage, {"word": "kind", "name": None}, ledger.tell, thing)
                elif thing == page:
                    self.assertEqual("again", ledger.tell(thing))
                elif thing[0] == page[0]:
                    self.refused(NoPage, {"word": "other", "name": page[0]}, ledger.tell, thing)
            for thing in list(only_lists_for_tuples(page)) + list(only_truths_for_numbers(page)):
                self.refused(NoPage, {"word": "kind", "name": None}, ledger.tell, thing)
            self.stands([page], ledger)

    def test_two_ledgers_have_nothing_in_common(self):
        one, other = self.ledger(move(name(1))), Ledger(OFFICE)
        other.tell(bag(name(2)))
        self.stands([move(name(1))], one)
        self.stands([bag(name(2))], other)


class BackTest(LedgerCase):
    def test_back_behind_back(self):
        pages = [bag(name(2)), move(name(1)), count(name(5))]
        ledger = self.ledger(*pages)
        for k in (2, 1, 0):
            self.assertEqual(pages[k][0], ledger.back())
            self.stands(pages[:k], ledger)
        for _ in range(3):
            with self.assertRaises(NoBack) as caught:
                ledger.back()
            self.assertIs(NoBack, type(caught.exception))
            self.stands([], ledger)

    def test_as_if_it_had_never_been_told(self):
        ledger = self.ledger(move(name(1)), bag(name(2)))
        ledger.back()
        # Another page of the name can be told now, and the very page again as a new one.
        self.assertEqual("new", ledger.tell(bag(name(2), many=9)))
        self.assertEqual(name(2), ledger.back())
        self.assertEqual("new", ledger.tell(bag(name(2))))
        self.stands([move(name(1)), bag(name(2))], ledger)

    def test_again_is_no_telling(self):
        ledger = self.ledger(move(name(1)), bag(name(2)))
        ledger.tell(move(name(1)))
        self.assertEqual(name(2), ledger.back())
        self.assertEqual(name(1), ledger.back())

    def test_refused_ones_are_no_tellings(self):
        ledger = self.ledger(move(name(1)))
        self.refuses("kind", None, ledger, None, [move(name(1))])
        self.refuses("other", name(1), ledger, bag(name(1)), [move(name(1))])
        self.assertEqual(name(1), ledger.back())
        self.stands([], ledger)


class ThenTest(LedgerCase):
    def test_below_0_and_beyond(self):
        ledger = self.ledger(bag(name(2)), move(name(1)))
        for k in (-1, -2, 3, 4, BIG, -BIG):
            self.refused(NoNumber, {"number": k}, ledger.then, k)
        self.same((), ledger.then, 0)
        self.same((bag(name(2)),), ledger.then, 1)
        self.same((move(name(1)), bag(name(2))), ledger.then, 2)
        ledger.back()
        self.refused(NoNumber, {"number": 2}, ledger.then, 2)

    def test_what_was_told_stays(self):
        # What is told behind some tellings is what was told then, whatever is told later.
        chance = random.Random(331)
        for _ in range(60):
            pages = list(random_book(chance, 12))
            chance.shuffle(pages)
            ledger = Ledger(OFFICE)
            behind = [ledger.book()]
            for page in pages:
                ledger.tell(page)
                behind.append(ledger.book())
            self.assertEqual(behind, [ledger.then(k) for k in range(len(pages) + 1)])
            self.assertEqual(book_of(pages), ledger.book())


class TakeInTest(LedgerCase):
    def test_new_ones_alone(self):
        one = self.ledger(bag(name(2)), move(name(1)))
        other = self.ledger(count(name(9)), move(name(1)), void(name(3), name(1)))
        self.assertEqual(2, one.take_in(other))
        self.stands([bag(name(2)), move(name(1)), count(name(9)), void(name(3), name(1))], one)
        self.stands([count(name(9)), move(name(1)), void(name(3), name(1))], other)
        self.assertEqual(0, one.take_in(other))
        self.assertEqual(1, other.take_in(one))
        self.assertEqual(one.book(), other.book())
        self.assertEqual(bag(name(2))[0], other.back())
        self.stands([bag(name(2)), move(name(1)), count(name(9)), void(name(3), name(1))], one)

    def test_each_is_a_telling(self):
        one = self.ledger(move(name(1)))
        one.take_in(self.ledger(count(name(9)), bag(name(2))))
        self.assertEqual([name(2), name(9), name(1)], [one.back() for _ in range(3)])

    def test_what_was_taken_back_there_is_not_told(self):
        other = self.ledger(move(name(1)), bag(name(2)))
        other.back()
        one = Ledger(OFFICE)
        self.assertEqual(1, one.take_in(other))
        self.stands([move(name(1))], one)

    def test_itself(self):
        ledger = self.ledger(bag(name(2)), move(name(1)))
        for _ in range(2):
            self.assertEqual(0, ledger.take_in(ledger))
            self.stands([bag(name(2)), move(name(1))], ledger)
        empty = Ledger(OFFICE)
        self.assertEqual(0, empty.take_in(empty))
        self.assertEqual(0, empty.take_in(Ledger(OFFICE)))
        self.stands([], empty)

    def is_refused(self, word, at, one, other, pages, others):
        for _ in range(2):
            with self.assertRaises(NoPage) as caught:
                one.take_in(other)
            self.assertIs(NoPage, type(caught.exception))
            self.assertEqual((word, at), (caught.exception.word, caught.exception.name))
            self.stands(pages, one)
            self.stands(others, other)

    def test_refused_midway(self):
        pages = [bag(name(2)), move(name(1))]
        others = [count(name(9)), move(name(1)), bag(name(2), many=9), void(name(8), name(1)), count(name(2, 1))]
        self.is_refused("other", name(2), self.ledger(*pages), self.ledger(*others), pages, others)
        # The first of two, in the order of telling.
        others = [count(name(9)), void(name(2), name(9)), bag(name(1))]
        self.is_refused("other", name(2), self.ledger(*pages), self.ledger(*others), pages, others)
        others = others[::-1]
        self.is_refused("other", name(1), self.ledger(*pages), self.ledger(*others), pages, others)

    def test_another_office(self):
        office = (WORTHS + (("c", 1),), OFFICE[1] + (("vault", "bank"),))
        others = [move(name(1)), move(name(3), runs=(("c", 0, 1),)), bag(name(2), many=7),
                  move(name(4), "vault", "bank")]
        other = self.ledger(*others, office=office)
        one = self.ledger(bag(name(2)))
        self.is_refused("kind", None, one, other, [bag(name(2))], others)
        others = [move(name(1)), bag(name(2), many=7), move(name(3), runs=(("c", 0, 1),))]
        other = self.ledger(*others, office=office)
        self.is_refused("other", name(2), one, other, [bag(name(2))], others)
        # Where all its pages are of this office, too, nothing is amiss.
        other = self.ledger(move(name(1)), bag(name(2)), office=office)
        self.assertEqual(1, one.take_in(other))
        self.stands([bag(name(2)), move(name(1))], one)
        self.assertEqual(0, other.take_in(one))

    def test_no_page_of_this_office_goes_ahead_of_another_of_the_name(self):
        office = (WORTHS + (("c", 1),), OFFICE[1])
        others = [move(name(2), runs=(("c", 0, 1),))]
        self.is_refused("kind", None, self.ledger(bag(name(2))), self.ledger(*others, office=office), [bag(name(2))],
                        others)

    def test_random_ones(self):
        chance = random.Random(332)
        seen = {"taken": 0, "refused": 0}
        for _ in range(200):
            pages = list(random_book(chance, 8))
            others = list(random_book(chance, 3)) + [page for page in pages if chance.random() < 0.5]
            others = list({page[0]: page for page in others}.values())
            chance.shuffle(pages)
            chance.shuffle(others)
            one, other = self.ledger(*pages), self.ledger(*others)
            clash = [page[0] for page in others if any(page[0] == at and page[1] != deed for at, deed in pages)]
            if clash:
                seen["refused"] += 1
                self.is_refused("other", clash[0], one, other, pages, others)
                continue
            fresh = [page for page in others if page not in pages]
            seen["taken"] += len(fresh) > 0
            self.assertEqual(len(fresh), one.take_in(other))
            self.stands(pages + fresh, one)
            self.stands(others, other)
            self.assertEqual(len([page for page in pages if page not in others]), other.take_in(one))
            self.assertEqual(one.book(), other.book())
        self.assertGreater(min(seen.values()), 20, seen)
