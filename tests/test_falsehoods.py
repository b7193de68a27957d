"""False notes and their papers: points [44] and [47]."""

import random

from pressnotes.books import book_of
from pressnotes.falsechecker import lets_false
from pressnotes.falsehoods import false_paper, false_runs
from tests.support import TOP, PlainCase, distances, random_office, runs_from, runs_like
from tests.test_books import bag, count, move, name, random_book, read, void
from tests.test_falsechecker import false_due, sealed_book
from tests.test_offices import OFFICE, WORTHS
from tests.test_steps import ALL_NOTES, seals_due, steps_due

NOTE = ("a", 3)
ROW_ROADS = (WORTHS, (("bank", "post"), ("none", "press"), ("press", "bank")))


def is_false_due(office, book, note):
    """By the words of [44]."""
    far = distances(office)
    told = steps_due(book, note)
    places = ["none"] + [step[2] for step in told]
    if any(far[place, step[1]] is None for place, step in zip(places, told)):
        return True
    moments = [step[0] for step in told]
    if len(moments) != len(set(moments)):
        return True
    sealed = seals_due(book, note)
    if any(begin < moment < end for moment in moments for begin, end in sealed):
        return True
    return any(end < begin for begin, end in sealed)


def ends_of_walks(office, book, note, last_bag=None):
    """By the words of [3]: the places to which walks of the note that suit lead, looked at moment by moment.

    With the name of a counted bag: of walks that go by its road at its moment, too, and make no move behind it.
    """
    told = steps_due(book, note)
    sealed = seals_due(book, note)
    if last_bag is not None:
        deed = dict(book)[last_bag]
        told += ((last_bag, deed[1], deed[2], last_bag),)
    if any(not begin < end for begin, end in sealed):
        return set()
    can = {"none"}
    names = sorted({at for at, deed in book})
    for k, at in enumerate(names + [None]):
        # The moments ahead of this name and behind the one before it: all of them are in a seal, or none is.
        last = names[k - 1] if k else None
        is_sealed = any(last is not None and begin <= last < end for begin, end in sealed)
        is_bagged = last_bag is not None and last is not None and last >= last_bag
        if not is_sealed and not is_bagged:
            for _ in office[1]:
                can |= {end for start, end in office[1] if start in can}
        here = [step for step in told if step[0] == at]
        if here and (is_bagged or len(here) > 1 or any(begin < at < end for begin, end in sealed)):
            return set()
        if here:
            can = {here[0][2]} if here[0][1] in can else set()
    return can


def walk_suits(office, book, note):
    return bool(ends_of_walks(office, book, note))


class FalseTest(PlainCase):
    def is_told_false(self, book, office=OFFICE, note=NOTE):
        paper = self.ask(false_paper, office, book, note)
        self.assertEqual(("told", True), false_due(office, book, note, paper), paper)
        self.same(True, lets_false, office, book, note, paper)
        self.assertTrue(is_false_due(office, book, note))
        self.assertFalse(walk_suits(office, book, note))
        return paper

    def is_not_false(self, book, office=OFFICE, note=NOTE):
        self.same(None, false_paper, office, book, note)
        self.assertFalse(is_false_due(office, book, note))
        self.assertTrue(walk_suits(office, book, note))

    def test_notes_without_steps(self):
        self.is_not_false(())
        self.is_not_false((bag(name(1)), count(name(2)), void(name(3), name(9)), read(name(4), name(9))))
        self.is_not_false((move(name(1), "bank", "post", (("a", 0, 3),)),))
        self.same((), false_runs, OFFICE, ())
        self.same((), false_runs, OFFICE, (bag(name(1)), count(name(2))))

    def test_ordinary_walks(self):
        self.is_not_false((move(name(1)), move(name(2), "press", "bank"), move(name(3), "bank", "post")))
        # Unseen moves may lie between, and ahead of the first step.
        self.is_not_false((move(name(1)), move(name(2), "bank", "post"), move(name(3), "bank", "post")))
        self.is_not_false((move(name(2), "bank", "post"),))

    def test_a_note_that_two_moves_make(self):
        book = (move(name(1)), move(name(2), runs=(("a", 3, 9),)))
        self.is_told_false(book)
        self.same((("a", 3, 5),), false_runs, OFFICE, book)

    def test_made_twice_with_steps_between(self):
        book = (move(name(1)), move(name(2), "press", "bank"), move(name(3), runs=(("a", 0, 4),)))
        self.is_told_false(book)
        self.same((("a", 0, 4),), false_runs, OFFICE, book)

    def test_no_road_leads_there(self):
        book = (move(name(1), "bank", "post"), move(name(2), "press", "bank"))
        self.is_told_false(book)
        self.same((("a", 0, 5),), false_runs, OFFICE, book)
        book = (move(name(1), "bank", "post"), move(name(2), "bank", "post"))
        self.is_not_false(book)
        self.is_told_false(book, ROW_ROADS)
        self.same((("a", 0, 5),), false_runs, ROW_ROADS, book)

    def test_none_does_not_come_to_the_first_step(self):
        office = (WORTHS, (("bank", "post"), ("mint", "bank"), ("none", "press")))
        self.is_told_false((move(name(1), "bank", "post"),), office)
        self.is_told_false((bag(name(1), "mint", "bank"), read(name(2), name(1))), office)
        self.is_not_false((move(name(1)),), office)
        self.same((("a", 0, 5),), false_runs, office, (move(name(1), "bank", "post"),))

    def test_a_read_ahead_of_its_bag(self):
        book = (read(name(1), name(4), (("a", 2, 4),)), move(name(2)), bag(name(4)))
        self.is_told_false(book)
        self.same((("a", 2, 4),), false_runs, OFFICE, book)
        self.is_not_false((move(name(2)), bag(name(4)), read(name(5), name(4))))

    def test_a_step_in_a_seal(self):
        book = (move(name(1)), bag(name(2)), move(name(4), "bank", "post", (("a", 3, 4),)), read(name(6), name(2)))
        self.is_told_false(book)
        self.same((("a", 3, 4),), false_runs, OFFICE, book)
        book = (move(name(1)), bag(name(2)), read(name(4), name(2)), move(name(6), "bank", "post"))
        self.is_not_false(book)

    def test_a_bag_in_a_seal(self):
        book = (bag(name(2)), bag(name(4), "bank", "post"), read(name(6), name(2)), read(name(8), name(4)))
        self.is_told_false(book)
        book = (bag(name(2)), read(name(3), name(2)), bag(name(4), "bank", "post"), read(name(8), name(4)))
        self.is_not_false(book)

    def test_a_read_that_names_another_note_seals_nothing(self):
        book = (move(name(1)), bag(name(2)), move(name(4), "press", "bank"), read(name(6), name(2), (("a", 4, 5),)))
        self.is_not_false(book)
        self.same((("a", 4, 5),), false_runs, OFFICE, book)

    def test_two_steps_of_one_moment(self):
        book = (bag(name(2)), read(name(4), name(2)), read(name(6), name(2), (("a", 3, 4),)))
        self.is_told_false(book)
        self.same((("a", 3, 4),), false_runs, OFFICE, book)

    def test_voids_make_it_right_again(self):
        book = (move(name(1)), move(name(2)), void(name(3), name(2)))
        self.is_not_false(book)
        self.same((), false_runs, OFFICE, book)

    def test_long_runs(self):
        book = (
            move(name(1), runs=(("a", 0, TOP), ("b", 0, TOP))), bag(name(2), many=TOP),
            move(name(3), "bank", "post", (("a", 9, TOP - 9),)), read(name(4), name(2), (("a", 5, TOP - 20),)),
            move(name(5), runs=(("b", 7, TOP - 7),)),
        )
        due = (("a", 9, TOP - 20), ("b", 7, TOP - 7))
        self.same(due, false_runs, OFFICE, book)
        for note, is_false in ((("a", 8), False), (("a", 9), True), (("a", TOP - 21), True), (("a", TOP - 20), False),
                               (("b", 6), False), (("b", 7), True), (("b", TOP - 8), True), (("b", TOP - 7), False)):
            paper = self.ask(false_paper, OFFICE, book, note)
            self.assertEqual(is_false, paper is not None, note)
            if is_false:
                self.same(True, lets_false, OFFICE, book, note, paper)

    def test_forty_pages_of_twenty_four_runs(self):
        book = tuple(
            move(name(at), "none", "press", tuple(("a", 100 * part + 2 * at, 100 * part + 2 * at + 4)
                                                  for part in range(24)))
            for at in range(40))
        due = tuple(("a", 100 * part + 2, 100 * part + 80) for part in range(24))
        self.same(due, false_runs, OFFICE, book)

    def test_against_small_books(self):
        chance = random.Random(161)
        kinds = {}
        for at in range(300):
            office = random_office(chance)
            book = random_book(chance, 12, office[1])
            if at % 3 == 0 and any(road[0] != "none" for road in office[1]):
                book = sealed_book(chance, office[1])
            falses = []
            for note in ALL_NOTES:
                due = is_false_due(office, book, note)
                self.assertEqual(not due, walk_suits(office, book, note))
                paper = false_paper(office, book, note)
                self.assertEqual(due, paper is not None)
                if due:
                    falses.append(note)
                    kind = paper[0] if paper[0] != "road" or paper[1] else "beginning"
                    kinds[kind] = kinds.get(kind, 0) + 1
                    self.assertEqual(("told", True), false_due(office, book, note, paper))
                    self.same(True, lets_false, office, book, note, paper)
            self.same(runs_from(falses), false_runs, office, book)
        self.assertGreater(min(kinds.get(kind, 0) for kind in ("road", "beginning", "seal", "early")), 20)

    def test_false_notes_stay_false_whatever_is_told_more(self):
        chance = random.Random(162)
        more_told = 0
        for _ in range(200):
            office = random_office(chance)
            book = random_book(chance, 9, office[1])
            named = [at for at, deed in book]
            more = [page for page in random_book(chance, 14, office[1]) if page[0] not in named]
            greater = book_of(list(book) + [page for page in more if page[1][0] != "void"])
            for note in chance.sample(ALL_NOTES, 8):
                paper = false_paper(office, book, note)
                if paper is not None:
                    more_told += len(greater) > len(book)
                    self.same(True, lets_false, office, greater, note, paper)
                    self.assertIsNotNone(self.ask(false_paper, office, greater, note))
        self.assertGreater(more_told, 100)

    def test_what_is_told_is_runs(self):
        chance = random.Random(163)
        for _ in range(100):
            self.assertTrue(runs_like(self.ask(false_runs, OFFICE, random_book(chance, 14))))
