"""Books: points [3], [25] to [29]."""

import functools
import random

from pressnotes.books import book_of, counted, is_book, joined, until, voided, waiting
from pressnotes.errors import NoPage
from tests.support import (
    BIG, FORTY_FIGURES, JUNK, PlainCase, notes_of, only_lists_for_tuples, only_truths_for_numbers, random_runs,
    runs_from, variants,
)
from tests.test_offices import OFFICE, ROADS
from tests.test_pages import BAG, COUNT, MOVE, READ, VOID, page_like


def name(day, number=0, hand="a"):
    return (day, number, hand)


def move(at, start="none", end="press", runs=(("a", 0, 5),)):
    return (at, ("move", start, end, runs))


def bag(at, start="press", end="bank", many=4):
    return (at, ("bag", start, end, many))


def read(at, other, runs=(("a", 0, 5),)):
    return (at, ("read", other, runs))


def count(at, place="bank", many=3):
    return (at, ("count", place, many))


def void(at, other):
    return (at, ("void", other))


def book_like(office, thing):
    if type(thing) is not tuple or not all(page_like(office, page) for page in thing):
        return False
    names = [page[0] for page in thing]
    return names == sorted(set(names))


def random_book(chance, most=9, roads=ROADS):
    """A book whose reads and voids often name pages of its own; its notes are a0 to a13 and b0 to b13."""
    bag_roads = [road for road in roads if road[0] != "none"]
    pool = [(day, number, hand) for day in range(6) for number in (0, 1) for hand in ("a", "b")]
    names = sorted(chance.sample(pool, chance.randint(0, most)))
    book = []
    for at in names:
        other = chance.choice(names if chance.random() < 0.85 else pool)
        runs = runs_from(notes_of(random_runs(chance, 3, "ab", 0, 13))) or (("a", 3, 6),)
        road = chance.choice(roads)
        word = chance.choice(("move", "move", "bag", "bag", "read", "read", "read", "count", "void"))
        if word == "move" or word == "bag" and not bag_roads:
            book.append(move(at, road[0], road[1], runs))
        elif word == "bag":
            book.append(bag(at, *chance.choice(bag_roads), chance.randint(1, 9)))
        elif word == "read":
            book.append(read(at, other, runs))
        elif word == "count":
            book.append(count(at, road[1], chance.randint(0, 9)))
        else:
            book.append(void(at, other))
    return tuple(book)


def standing_due(book):
    """How each page stands, by the words of [3] and [27]."""
    found = {}
    for at, deed in book:
        if deed[0] != "void":
            found[at] = "counted"
            for by, other in book:
                if other[0] == "void" and other[1] == at:
                    found[at] = "voided"
    for at, deed in book:
        if deed[0] == "read" and found[at] == "counted":
            bags = [by for by, other in book if other[0] == "bag" and by == deed[1] and found[by] == "counted"]
            if not bags:
                found[at] = "waiting"
    return found


@functools.lru_cache(2000)
def names_due(book, word):
    found = standing_due(book)
    return tuple(sorted(at for at in found if found[at] == word))


class IsBookTest(PlainCase):
    BOOK = (
        move(name(0)), bag(name(1)), read(name(1, 0, "b"), name(1)), count(name(1, 1)), void(name(2), name(0)),
    )

    def test_right_ones(self):
        for book in ((), (MOVE,), (BAG,), (READ,), (COUNT,), (VOID,), self.BOOK, self.BOOK[1:], self.BOOK[::2]):
            self.same(True, is_book, OFFICE, book)

    def test_wrong_ones(self):
        for thing in (
            [], None, "", 0, list(self.BOOK), self.BOOK[::-1], self.BOOK + self.BOOK, self.BOOK + (None,),
            self.BOOK[:1] * 2, (move(name(0)), bag(name(0))), (bag(name(1)), move(name(0))), MOVE, (list(MOVE),),
            (move(name(1, 1)), move(name(1, 0))), (move(name(1, 1, "b")), move(name(1, 1, "a"))), (self.BOOK,),
            (move(name(1)), move(name(0, 5, "z"))), (move(name(0)), count(name(1), "none")), ((),),
            (move(name(0)), move(name(1), "press", "none")), (move(name(0)), move(name(1), runs=(("c", 0, 1),))),
            (bag(name(0), "none", "press"),), (count(name(0), "none"),),
        ):
            self.same(False, is_book, OFFICE, thing)

    def test_books_of_other_offices(self):
        other = ((("a", 5),), (("none", "press"), ("press", "bank")))
        self.same(True, is_book, other, self.BOOK)
        self.same(False, is_book, ((("b", 5),), other[1]), self.BOOK)
        self.same(False, is_book, (other[0], other[1][:1]), self.BOOK)

    def test_of_however_many_pages(self):
        sixty = tuple(move(name(day)) for day in range(60))
        self.same(True, is_book, OFFICE, sixty)
        more = [void(name(day, 1), name(day)) for day in range(60)]
        self.same(True, is_book, OFFICE, tuple(sorted(list(sixty) + more)))
        self.same(False, is_book, OFFICE, sixty + (move(name(59)),))
        self.same(False, is_book, OFFICE, sixty + (None,))

    def test_any_thing(self):
        for thing in JUNK:
            self.same(book_like(OFFICE, thing), is_book, OFFICE, thing)
        for thing in variants(self.BOOK):
            self.same(book_like(OFFICE, thing), is_book, OFFICE, thing)
        for thing in list(only_lists_for_tuples(self.BOOK)) + list(only_truths_for_numbers(self.BOOK)):
            self.same(False, is_book, OFFICE, thing)

    def test_random_ones(self):
        chance = random.Random(71)
        for _ in range(100):
            self.same(True, is_book, OFFICE, random_book(chance))


class BookOfTest(PlainCase):
    ONE, TWO, THREE = move(name(3)), count(name(1, 5, "b")), bag(name(1, 5, "c"))

    def test_none(self):
        self.same((), book_of, [])
        self.same((), book_of, ())

    def test_any_order_lists_and_tuples(self):
        due = (self.TWO, self.THREE, self.ONE)
        for pages in ([self.ONE, self.TWO, self.THREE], [self.THREE, self.ONE, self.TWO], list(due), list(due)[::-1]):
            self.same(due, book_of, pages)
            self.same(due, book_of, tuple(pages))

    def test_pages_twice(self):
        self.same((self.ONE,), book_of, [self.ONE, self.ONE, self.ONE])
        self.same((self.TWO, self.ONE), book_of, (self.ONE, self.TWO, self.ONE, self.TWO))

    def test_sorted_by_names_alone(self):
        pages = [void(name(10), name(1)), bag(name(9)), bag(name(2, 10)), bag(name(2, 9)), bag(name(2, 9, "ab")),
                 bag(name(2, 9, "b"))]
        due = (bag(name(2, 9)), bag(name(2, 9, "ab")), bag(name(2, 9, "b")), bag(name(2, 10)), bag(name(9)),
               void(name(10), name(1)))
        self.same(due, book_of, pages)

    def test_two_unlike_pages_of_one_name(self):
        other = move(name(3), runs=(("a", 0, 6),))
        self.refused(NoPage, {"word": "other", "name": name(3)}, book_of, [self.ONE, other])
        self.refused(NoPage, {"word": "other", "name": name(3)}, book_of, (other, self.TWO, self.ONE, self.ONE))
        self.refused(NoPage, {"word": "other", "name": name(3)}, book_of, (self.ONE, other, self.ONE, self.TWO))
        self.refused(NoPage, {"word": "other", "name": name(3)}, book_of, (self.ONE, self.ONE, self.TWO, other))

    def test_the_least_such_name(self):
        late = [move(name(9)), bag(name(9))]
        early = [move(name(2)), bag(name(2))]
        for pages in (
            late + early, early + late, late[:1] + early + late[1:], early[:1] + late + early[1:] + [self.TWO],
        ):
            self.refused(NoPage, {"word": "other", "name": name(2)}, book_of, pages)
        pages = late + [self.TWO, self.THREE]
        self.refused(NoPage, {"word": "other", "name": name(9)}, book_of, pages)

    def test_a_hundred_pages_of_forty_names(self):
        forty = [move(name(day % 7, day)) for day in range(40)]
        chance = random.Random(72)
        pages = forty + [chance.choice(forty) for _ in range(60)]
        chance.shuffle(pages)
        self.same(tuple(sorted(forty)), book_of, pages)

    def test_the_list_stays(self):
        pages = [self.ONE, self.TWO, self.ONE]
        book_of(pages)
        self.assertEqual([self.ONE, self.TWO, self.ONE], pages)


class StandingTest(PlainCase):
    def stands(self, book, due_counted, due_waiting, due_voided):
        self.same(tuple(due_counted), counted, book)
        self.same(tuple(due_waiting), waiting, book)
        self.same(tuple(due_voided), voided, book)

    def test_no_pages(self):
        self.stands((), [], [], [])

    def test_without_voids(self):
        book = (move(name(0)), bag(name(1)), count(name(2)))
        self.stands(book, [name(0), name(1), name(2)], [], [])

    def test_voids_ahead_and_behind(self):
        self.stands((move(name(0)), void(name(1), name(0))), [], [], [name(0)])
        self.stands((void(name(0), name(1)), move(name(1))), [], [], [name(1)])
        self.stands((void(name(0), name(2)), move(name(1)), count(name(2))), [name(1)], [], [name(2)])
        self.stands((void(name(0), name(1)), bag(name(1)), void(name(2), name(1))), [], [], [name(1)])

    def test_a_void_of_a_void_does_nothing(self):
        book = (move(name(0)), void(name(1), name(0)), void(name(2), name(1)))
        self.stands(book, [], [], [name(0)])

    def test_a_void_of_nothing_and_of_itself(self):
        self.stands((move(name(0)), void(name(1), name(7))), [name(0)], [], [])
        self.stands((move(name(0)), void(name(1), name(1))), [name(0)], [], [])
        self.stands((void(name(1), name(1)),), [], [], [])

    def test_names_are_compared_whole(self):
        book = (move(name(1)), move(name(1, 0, "b")), move(name(1, 1)), void(name(2), name(1, 0, "b")))
        self.stands(book, [name(1), name(1, 1)], [], [name(1, 0, "b")])

    def test_reads_of_bags(self):
        self.stands((bag(name(0)), read(name(1), name(0))), [name(0), name(1)], [], [])
        self.stands((read(name(0), name(1)), bag(name(1))), [name(0), name(1)], [], [])
        self.stands((bag(name(0)), read(name(1), name(0)), read(name(2), name(0))), [name(0), name(1), name(2)], [], [])

    def test_reads_of_a_voided_bag(self):
        book = (bag(name(0)), read(name(1), name(0)), void(name(2), name(0)))
        self.stands(book, [], [name(1)], [name(0)])
        book = (void(name(0), name(2)), read(name(1), name(2)), bag(name(2)))
        self.stands(book, [], [name(1)], [name(2)])

    def test_voided_reads(self):
        book = (bag(name(0)), read(name(1), name(0)), void(name(2), name(1)))
        self.stands(book, [name(0)], [], [name(1)])
        self.stands((read(name(1), name(0)), void(name(2), name(1))), [], [], [name(1)])
        book = (bag(name(0)), read(name(1), name(0)), void(name(2), name(1)), void(name(3), name(0)))
        self.stands(book, [], [], [name(0), name(1)])

    def test_reads_of_other_pages(self):
        self.stands((move(name(0)), read(name(1), name(0))), [name(0)], [name(1)], [])
        self.stands((count(name(0)), read(name(1), name(0))), [name(0)], [name(1)], [])
        self.stands((void(name(0), name(9)), read(name(1), name(0))), [], [name(1)], [])
        self.stands((read(name(1), name(1)),), [], [name(1)], [])
        self.stands((read(name(1), name(8)),), [], [name(1)], [])
        book = (bag(name(0)), read(name(1), name(0)), read(name(2), name(1)))
        self.stands(book, [name(0), name(1)], [name(2)], [])

    def test_voided_counts(self):
        self.stands((count(name(0)), void(name(1), name(0))), [], [], [name(0)])

    def test_random_books(self):
        chance = random.Random(73)
        for _ in range(1500):
            book = random_book(chance, 12)
            for word, function in (("counted", counted), ("waiting", waiting), ("voided", voided)):
                self.same(names_due(book, word), function, book)
            parts = counted(book) + waiting(book) + voided(book)
            self.assertEqual(sorted(at for at, deed in book if deed[0] != "void"), sorted(parts))

    def test_forty_pages(self):
        book = [bag(name(0, at)) for at in range(10)] + [read(name(1, at), name(0, at)) for at in range(20)]
        book += [void(name(2, at), name(0, at)) for at in range(0, 10, 2)]
        book += [void(name(3, at), name(1, at)) for at in range(15, 20)]
        self.stands(
            tuple(book),
            [name(0, at) for at in range(1, 10, 2)] + [name(1, at) for at in range(1, 10, 2)],
            [name(1, at) for at in range(0, 10, 2)] + [name(1, at) for at in range(10, 15)],
            [name(0, at) for at in range(0, 10, 2)] + [name(1, at) for at in range(15, 20)],
        )


class UntilTest(PlainCase):
    BOOK = (move(name(2)), bag(name(2, 7)), read(name(4), name(9)), void(name(8), name(2)), bag(name(9)))

    def test_days(self):
        for day, many in ((-BIG, 0), (-1, 0), (0, 0), (1, 0), (2, 2), (3, 2), (4, 3), (5, 3), (7, 3), (8, 4), (9, 5),
                          (10, 5), (99999, 5), (100000, 5), (BIG, 5), (FORTY_FIGURES, 5), (-FORTY_FIGURES, 0)):
            self.same(self.BOOK[:many], until, self.BOOK, day)

    def test_of_no_pages(self):
        for day in (-1, 0, 5, BIG):
            self.same((), until, (), day)

    def test_the_first_and_the_last_day(self):
        book = (move(name(0)), move(name(99999)))
        self.same((), until, book, -1)
        self.same(book[:1], until, book, 0)
        self.same(book[:1], until, book, 99998)
        self.same(book, until, book, 99999)

    def test_later_voids_and_bags_do_nothing_yet(self):
        self.same((name(2), name(2, 7)), counted, until(self.BOOK, 4))
        self.same((name(4),), waiting, until(self.BOOK, 4))
        self.same((), voided, until(self.BOOK, 4))
        self.same((name(2),), voided, until(self.BOOK, 8))
        self.same((name(2, 7), name(4), name(9)), counted, until(self.BOOK, 9))


class JoinedTest(PlainCase):
    ONE = (move(name(0)), bag(name(2)), count(name(4)))
    OTHER = (bag(name(1)), bag(name(2)), read(name(5), name(2)))

    def test_ordinary(self):
        due = (move(name(0)), bag(name(1)), bag(name(2)), count(name(4)), read(name(5), name(2)))
        self.same(due, joined, self.ONE, self.OTHER)
        self.same(due, joined, self.OTHER, self.ONE)

    def test_with_itself_and_with_none(self):
        self.same(self.ONE, joined, self.ONE, self.ONE)
        self.same(self.ONE, joined, self.ONE, ())
        self.same(self.ONE, joined, (), self.ONE)
        self.same((), joined, (), ())

    def test_unlike_pages_of_one_name(self):
        one = (move(name(0)), bag(name(2)), count(name(4)), count(name(6)))
        other = (move(name(0)), bag(name(3)), count(name(4), many=4), move(name(6)))
        self.refused(NoPage, {"word": "other", "name": name(4)}, joined, one, other)
        self.refused(NoPage, {"word": "other", "name": name(4)}, joined, other, one)
        self.refused(NoPage, {"word": "other", "name": name(6)}, joined, one[3:], other)

    def test_of_three_and_up_to_days(self):
        chance = random.Random(74)
        refusals = 0
        for _ in range(400):
            # Parts of one book have no unlike pages, parts of two mostly have.
            whole = random_book(chance, 12)
            one, two, three = [tuple(page for page in whole if chance.random() < 0.6) for _ in range(3)]
            due = tuple(page for page in whole if page in one or page in two)
            self.same(due, joined, one, two)
            self.same(due, joined, two, one)
            self.assertEqual(joined(joined(one, two), three), joined(one, joined(two, three)))
            for day in (-1, 2, 9):
                self.same(until(joined(one, two), day), joined, until(one, day), until(two, day))
            stranger = random_book(chance, 12)
            unlike = [at for at, deed in stranger for by, other in whole if at == by and deed != other]
            if unlike:
                refusals += 1
                self.refused(NoPage, {"word": "other", "name": min(unlike)}, joined, whole, stranger)
                self.refused(NoPage, {"word": "other", "name": min(unlike)}, joined, stranger, whole)
        self.assertGreater(refusals, 50)
