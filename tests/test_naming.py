"""Names turned: points [80] and [81]."""

import random

from pressnotes.books import book_of, is_book
from pressnotes.naming import moved_days, renamed, renamed_book
from pressnotes.offices import is_office
from tests.support import PlainCase, notes_of, random_office, runs_from
from tests.test_books import bag, count, move, name, random_book, read, void
from tests.test_offices import OFFICE, WORTHS

STAY = ({}, {}, {})
WORDS = ({"a": "z"}, {"press": "mint", "bank": "till"}, {"a": "q", "b": "r"})
# All change places.
SWAPS = ({"a": "b", "b": "a"}, {"press": "bank", "bank": "press"}, {"a": "b", "b": "a"})


def turned_office(office, words):
    """The office turned, pair by pair."""
    worths = {words[0].get(series, series): worth for series, worth in office[0]}
    roads = {tuple(words[1].get(place, place) for place in road) for road in office[1]}
    return (tuple(sorted(worths.items())), tuple(sorted(roads)))


def turned_name(at, words):
    return (at[0], at[1], words[2].get(at[2], at[2]))


def turned_notes(notes, words):
    return [(words[0].get(series, series), number) for series, number in notes]


def turned_deed(deed, words):
    """The deed turned, thing by thing, its runs note by note."""
    if deed[0] in ("move", "bag"):
        last = runs_from(turned_notes(notes_of(deed[3]), words)) if deed[0] == "move" else deed[3]
        return (deed[0],) + tuple(words[1].get(place, place) for place in deed[1:3]) + (last,)
    if deed[0] == "count":
        return ("count", words[1].get(deed[1], deed[1]), deed[2])
    if deed[0] == "read":
        return ("read", turned_name(deed[1], words), runs_from(turned_notes(notes_of(deed[2]), words)))
    return ("void", turned_name(deed[1], words))


def turned_book(book, words):
    return tuple(sorted((turned_name(at, words), turned_deed(deed, words)) for at, deed in book))


def later(at, days):
    return (at[0] + days,) + at[1:]


def later_book(book, days):
    found = []
    for at, deed in book:
        if deed[0] in ("read", "void"):
            deed = deed[:1] + (later(deed[1], days),) + deed[2:]
        found.append((later(at, days), deed))
    return tuple(found)


class RenamedTest(PlainCase):
    def test_words_that_stay(self):
        self.same(OFFICE, renamed, OFFICE, STAY)
        self.same(OFFICE, renamed, OFFICE, ({"x": "y"}, {"vault": "till"}, {"a": "b"}))
        self.same(OFFICE, renamed, OFFICE, ({"a": "a"}, {"bank": "bank"}, {}))

    def test_rising_anew(self):
        due = ((("b", 10), ("z", 5)), (("mint", "till"), ("none", "mint"), ("post", "till"), ("till", "post")))
        self.same(due, renamed, OFFICE, WORDS)

    def test_words_that_change_places(self):
        due = ((("a", 10), ("b", 5)), (("bank", "press"), ("none", "bank"), ("post", "press"), ("press", "post")))
        self.same(due, renamed, OFFICE, SWAPS)

    def test_the_place_none_stays(self):
        # A series or a hand may be called none all the same.
        due = ((("a", 5), ("none", 10)), OFFICE[1])
        self.same(due, renamed, OFFICE, ({"b": "none"}, {}, {"a": "none"}))

    def test_words_of_one_kind_turn_no_others(self):
        office = ((("bank", 5), ("none", 10)), (("none", "bank"), ("bank", "post"))[::-1])
        due = ((("none", 10), ("x", 5)), (("none", "y"), ("y", "post")))
        self.same(due, renamed, office, ({"bank": "x", "post": "z"}, {"bank": "y"}, {"bank": "w"}))

    def test_random_ones(self):
        chance = random.Random(341)
        for _ in range(200):
            office = random_office(chance)
            places = ["press", "bank", "post", "mint"]
            words = ({"a": chance.choice("axz")}, dict(zip(places, chance.sample(places + ["aa", "zz"], 4))), {})
            self.same(turned_office(office, words), renamed, office, words)
            self.assertTrue(is_office(renamed(office, words)))


class RenamedBookTest(PlainCase):
    BOOK = (
        move(name(1), runs=(("a", 0, 5), ("b", 2, 9))), bag((1, 0, "b")),
        read(name(2), (1, 0, "b"), (("a", 0, 2), ("b", 4, 5))),
        count((2, 0, "c"), "bank", 3), void((2, 1, "a"), name(9, 0, "b")), void((2, 1, "b"), name(9, 0, "c")),
    )

    def test_words_that_stay(self):
        for words in (STAY, ({"x": "y"}, {"vault": "till"}, {"x": "y"})):
            self.same(self.BOOK, renamed_book, self.BOOK, words)
        self.same((), renamed_book, (), WORDS)

    def test_all_deeds_and_names_within(self):
        due = (
            count((2, 0, "c"), "till", 3), move((1, 0, "q"), "none", "mint", (("b", 2, 9), ("z", 0, 5))),
            bag((1, 0, "r"), "mint", "till"), read((2, 0, "q"), (1, 0, "r"), (("b", 4, 5), ("z", 0, 2))),
            void((2, 1, "q"), (9, 0, "r")), void((2, 1, "r"), (9, 0, "c")),
        )
        self.same(tuple(sorted(due)), renamed_book, self.BOOK, WORDS)

    def test_words_that_change_places(self):
        due = turned_book(self.BOOK, SWAPS)
        self.same(due, renamed_book, self.BOOK, SWAPS)
        self.assertEqual((1, 0, "a"), due[0][0])
        self.assertEqual(("bag", "bank", "press", 4), due[0][1])
        self.same(self.BOOK, renamed_book, due, SWAPS)

    def test_pages_rise_anew(self):
        book = (void((1, 0, "a"), name(9)), void((1, 0, "b"), name(9)), void((1, 1, "a"), name(9)))
        due = (void((1, 0, "b"), (9, 0, "z")), void((1, 0, "z"), (9, 0, "z")), void((1, 1, "z"), (9, 0, "z")))
        self.same(due, renamed_book, book, ({}, {}, {"a": "z"}))

    def test_random_ones(self):
        chance = random.Random(342)
        for _ in range(200):
            office = random_office(chance)
            book = random_book(chance, 10, office[1])
            places = ["press", "bank", "post", "mint"]
            words = (dict(zip("ab", chance.sample("abxz", 2))),
                     dict(zip(places, chance.sample(places + ["aa", "zz"], 4))),
                     dict(zip("ab", chance.sample("abcz", 2))))
            self.same(turned_book(book, words), renamed_book, book, words)
            self.assertTrue(is_book(renamed(office, words), renamed_book(book, words)))


class MovedDaysTest(PlainCase):
    def test_later_and_earlier(self):
        book = (move(name(5)), bag(name(6)), read(name(7), name(6)), count(name(8)), void(name(9), name(3)))
        self.same(book, moved_days, book, 0)
        due = (move(name(15)), bag(name(16)), read(name(17), name(16)), count(name(18)), void(name(19), name(13)))
        self.same(due, moved_days, book, 10)
        self.same(book, moved_days, due, -10)
        due = (move(name(2)), bag(name(3)), read(name(4), name(3)), count(name(5)), void(name(6), name(0)))
        self.same(due, moved_days, book, -3)
        self.same((), moved_days, (), 7)

    def test_to_the_bounds(self):
        book = (move(name(0)), void(name(1), name(2)))
        self.same((move(name(99997)), void(name(99998), name(99999))), moved_days, book, 99997)

    def test_numbers_and_hands_stay(self):
        book = (void((1, 7, "bb"), (2, 9, "cc")),)
        self.same((void((3, 7, "bb"), (4, 9, "cc")),), moved_days, book, 2)

    def test_random_ones(self):
        chance = random.Random(343)
        for _ in range(150):
            book = random_book(chance, 10)
            days = chance.choice((1, 5, 900, 99990))
            self.same(later_book(book, days), moved_days, book, days)
            self.same(book, moved_days, moved_days(book, days), -days)
            self.assertEqual(book_of(moved_days(book, days)), moved_days(book, days))


class OfficeAndBookTest(PlainCase):
    def test_what_is_handed_in_stays(self):
        words = ({"a": "z"}, {"press": "mint"}, {"a": "q"})
        renamed(OFFICE, words)
        renamed_book((move(name(1)),), words)
        self.assertEqual(({"a": "z"}, {"press": "mint"}, {"a": "q"}), words)
        self.assertEqual((WORTHS, OFFICE[1]), OFFICE)
