"""Gaps between steps, and the fewest unseen moves: points [48] and [49]."""

import random

from pressnotes.errors import NoWorld
from pressnotes.gaps import gaps, unseen
from tests.support import TOP, PlainCase, distances, random_office
from tests.test_balances import note_gaps
from tests.test_bags import true_book
from tests.test_books import bag, count, move, name, random_book, read, void
from tests.test_falsehoods import is_false_due
from tests.test_offices import OFFICE, WORTHS
from tests.test_steps import ALL_NOTES, steps_due

LINE = (WORTHS, (("bank", "post"), ("none", "press"), ("press", "bank")))


def gaps_due(book):
    """How often each gap is there, note by note."""
    many = {}
    for note in ALL_NOTES:
        for gap in note_gaps(steps_due(book, note)):
            many[gap] = many.get(gap, 0) + 1
    return tuple((one, other, many[one, other]) for one, other in sorted(many))


def fewest_between(office, book):
    """By trying: the fewest moves between neighbouring steps, each a row of roads made longer and longer."""
    total = 0
    for note in ALL_NOTES:
        for one, other in note_gaps(steps_due(book, note)):
            can = {one}
            while other not in can:
                can |= {end for start, end in office[1] if start in can}
                total += 1
    return total


class GapsTest(PlainCase):
    def test_no_gaps(self):
        for book in (
            (), (move(name(1)),), (move(name(1)), move(name(2), "press", "bank"), move(name(3), "bank", "post")),
            (bag(name(1)), count(name(2)), void(name(3), name(9))), (read(name(1), name(9)),),
            (move(name(1)), bag(name(2)), read(name(3), name(2), (("a", 0, 3),))),
        ):
            self.same((), gaps, book)
            self.same(0, unseen, OFFICE, book)

    def test_ahead_of_the_first_step(self):
        book = (move(name(1), "bank", "post", (("a", 0, 5), ("b", 2, 4))),)
        self.same((("none", "bank", 7),), gaps, book)
        self.same(14, unseen, OFFICE, book)

    def test_between_steps_and_none_behind_the_last(self):
        book = (move(name(1)), move(name(3), "bank", "post", (("a", 0, 3),)))
        self.same((("press", "bank", 3),), gaps, book)
        self.same(3, unseen, OFFICE, book)

    def test_no_gap_of_a_place_with_itself(self):
        book = (move(name(1), "bank", "post"), move(name(2), "post", "bank", (("a", 0, 2),)),
                move(name(3), "bank", "post"))
        self.same((("none", "bank", 5), ("post", "bank", 3)), gaps, book)
        self.same(13, unseen, OFFICE, book)

    def test_a_gap_several_times(self):
        book = (move(name(1), "bank", "post"), move(name(2), "bank", "post"),
                move(name(3), "bank", "post", (("a", 4, 9),)))
        self.same((("none", "bank", 9), ("post", "bank", 6)), gaps, book)
        self.same(24, unseen, OFFICE, book)

    def test_moments_not_names(self):
        # The read is told last, its step stands between the others.
        book = (move(name(1)), bag(name(2), "bank", "post"), read(name(4), name(2), (("a", 0, 2),)),
                move(name(5), "bank", "post"))
        self.same((("post", "bank", 2), ("press", "bank", 5)), gaps, book)
        self.same(7, unseen, OFFICE, book)
        book = (move(name(1)), bag(name(2), "bank", "post"), move(name(5), "bank", "post"), read(name(6), name(2)))
        self.same((("post", "bank", 5), ("press", "bank", 5)), gaps, book)
        self.refused(NoWorld, {"word": "false"}, unseen, OFFICE, book)

    def test_false_notes_have_gaps_too(self):
        book = (move(name(1)), move(name(2)), move(name(3), "bank", "post", (("b", 0, 1),)))
        self.same((("none", "bank", 1), ("press", "none", 5)), gaps, book)
        self.refused(NoWorld, {"word": "false"}, unseen, OFFICE, book)
        book = (move(name(0)), bag(name(2)), read(name(4), name(2)), read(name(6), name(2), (("a", 1, 3),)))
        self.same((("bank", "press", 2),), gaps, book)
        self.refused(NoWorld, {"word": "false"}, unseen, OFFICE, book)
        # A false one may have no gap at all.
        book = (move(name(0)), read(name(1), name(2)), bag(name(2)))
        self.same((), gaps, book)
        self.refused(NoWorld, {"word": "false"}, unseen, OFFICE, book)

    def test_voided_pages(self):
        book = (move(name(1)), move(name(2)), move(name(3), "bank", "post"), void(name(4), name(2)))
        self.same((("press", "bank", 5),), gaps, book)
        self.same(5, unseen, OFFICE, book)

    def test_how_far(self):
        book = (move(name(1), "bank", "post", (("a", 0, 3),)), move(name(2), "press", "bank", (("b", 0, 2),)))
        self.same((("none", "bank", 3), ("none", "press", 2)), gaps, book)
        self.same(8, unseen, LINE, book)
        office = (WORTHS, (("bank", "post"), ("none", "bank"), ("none", "press"), ("press", "bank")))
        self.same(5, unseen, office, book)

    def test_long_runs(self):
        book = (
            move(name(1), runs=(("a", 0, TOP),)), move(name(2), "bank", "post", (("a", 7, TOP), ("b", 0, TOP))),
            move(name(3), "bank", "post", (("a", 1, TOP - 7),)),
        )
        due = (("none", "bank", TOP), ("post", "bank", TOP - 14), ("press", "bank", TOP - 7 + 6))
        self.same(due, gaps, book)
        self.same(2 * TOP + TOP - 14 + TOP - 1, unseen, OFFICE, book)

    def test_forty_pages_of_twenty_four_runs(self):
        book = tuple(
            move(name(at), "bank", "post", tuple(("a", 100 * part + at, 100 * part + at + 30) for part in range(24)))
            for at in range(40))
        self.same((("none", "bank", 69 * 24), ("post", "bank", (40 * 30 - 69) * 24)), gaps, book)
        self.same(2 * 69 * 24 + (40 * 30 - 69) * 24, unseen, OFFICE, book)

    def test_against_notes_one_by_one(self):
        chance = random.Random(171)
        words = {True: 0, False: 0}
        for at in range(400):
            office = random_office(chance)
            book = random_book(chance, 14, office[1]) if at % 2 else true_book(chance, office)
            due = gaps_due(book)
            self.same(due, gaps, book)
            is_false = any(is_false_due(office, book, note) for note in ALL_NOTES)
            words[is_false] += len(due) > 0
            if is_false:
                self.refused(NoWorld, {"word": "false"}, unseen, office, book)
            else:
                far = distances(office)
                self.same(sum(far[one, other] * many for one, other, many in due), unseen, office, book)
                self.assertEqual(fewest_between(office, book), unseen(office, book))
        self.assertGreater(min(words.values()), 50)
