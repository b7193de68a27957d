"""The checker of papers of falseness: points [45] and [46]."""

import random

from pressnotes.falsechecker import lets_false
from pressnotes.steps import steps
from tests.support import (
    JUNK, PlainCase, all_sets, cut_due, nested, only_lists_for_tuples, only_truths_for_numbers, random_office, set_like,
    variants,
)
from tests.test_books import bag, count, move, name, random_book, read, void
from tests.test_offices import OFFICE, WORTHS
from tests.test_pages import name_like
from tests.test_steps import ALL_NOTES, steps_due

NOTE = ("a", 3)
DOWN = ("bank", "post")


def shape_like(office, thing):
    """Whether it is one of the three papers by kinds."""
    if type(thing) is not tuple or thing == () or type(thing[0]) is not str:
        return False
    rest = thing[1:]
    if thing[0] == "road" and len(rest) == 3:
        return (rest[0] is None or name_like(rest[0])) and name_like(rest[1]) and set_like(office, rest[2])
    if thing[0] == "seal" and len(rest) == 2:
        return name_like(rest[0]) and name_like(rest[1]) and rest[0] != rest[1]
    return thing[0] == "early" and len(rest) == 1 and name_like(rest[0])


def false_due(office, book, note, thing):
    """What any thing is as a paper of falseness, by the words of [45] and [46]."""
    if not shape_like(office, thing):
        return ("shape", -1)
    pages = dict(book)
    told = {step[3]: step for step in steps_due(book, note)}
    names = [at for at in (thing[1:3] if len(thing) > 2 else thing[1:]) if at is not None]
    for k, at in enumerate(names):
        if at not in told or thing[0] in ("seal", "early") and k == 0 and pages[at][0] != "read":
            return ("page", k)
    if thing[0] == "road":
        start = "none" if thing[1] is None else told[thing[1]][2]
        if thing[1] is not None and not told[thing[1]][0] < told[thing[2]][0]:
            return ("order", 0)
        return cut_due(office, start, told[thing[2]][1], thing[3])
    begins, ends = pages[thing[1]][1], thing[1]
    if thing[0] == "early":
        return ("told", True) if ends < begins else ("order", 0)
    other = thing[2]
    if begins < other < ends:
        return ("told", True)
    if pages[other][0] == "read" and (pages[other][1] == begins or begins < pages[other][1] < ends):
        return ("told", True)
    return ("order", 0)


def sealed_book(chance, roads):
    """A book of bags, reads of these and moves, most of which name the note, and some voids."""
    names = [name(day, 0, hand) for day in range(6) for hand in "ab"]
    bag_roads = [road for road in roads if road[0] != "none"]
    bags = sorted(chance.sample(names, 3))
    book = [bag(at, *chance.choice(bag_roads)) for at in bags]
    for at in chance.sample([other for other in names if other not in bags], 7):
        runs = chance.choice(((("a", 0, 5),), (("a", 3, 4), ("b", 0, 2)), (("a", 4, 5),)))
        word = chance.choice(("move", "read", "read", "read", "void"))
        if word == "move":
            book.append(move(at, *chance.choice(roads), runs))
        else:
            book.append(read(at, chance.choice(bags), runs) if word == "read" else void(at, chance.choice(names)))
    return tuple(sorted(book))


class FalseCase(PlainCase):
    def due(self, due, book, thing, office=OFFICE, note=NOTE):
        """The checker tells what is due, and so does the oracle of this file."""
        self.assertEqual(due, false_due(office, book, note, thing))
        self.same_or_no_paper(due, lets_false, office, book, note, thing)


class RoadTest(FalseCase):
    # Made twice: press comes to bank and post, but not to none.
    TWICE = (move(name(1)), move(name(2), "press", "bank"), count(name(3)), move(name(5)))
    ALL_BUT_NONE = ("bank", "post", "press")

    def test_two_moves_that_make_a_note(self):
        self.due(("told", True), self.TWICE, ("road", name(1), name(5), self.ALL_BUT_NONE))
        self.due(("told", True), self.TWICE, ("road", name(2), name(5), self.ALL_BUT_NONE))
        self.due(("told", True), self.TWICE, ("road", name(2), name(5), DOWN))

    def test_from_the_beginning(self):
        office = (WORTHS, (("bank", "post"), ("mint", "bank"), ("none", "press")))
        book = (move(name(2), "bank", "post"),)
        self.due(("told", True), book, ("road", None, name(2), ("none", "press")), office)
        self.due(("told", True), book, ("road", None, name(2), ("none", "post", "press")), office)
        self.due(("leaves", 2), book, ("road", None, name(2), ("none",)), office)
        self.due(("from", 0), book, ("road", None, name(2), ("press",)), office)
        self.due(("from", 0), book, ("road", None, name(2), ()), office)
        self.due(("to", 0), book, ("road", None, name(2), ("bank", "none", "post", "press")), office)
        self.due(("page", 0), book, ("road", None, name(3), ("none", "press")), office)
        self.due(("leaves", 0), book, ("road", None, name(2), ("bank",)), office)

    def test_words_in_their_order(self):
        book = self.TWICE
        self.due(("shape", -1), book, ("road", name(8), name(9), DOWN[::-1]))
        self.due(("page", 0), book, ("road", name(8), name(9), ("bank",)))
        self.due(("page", 1), book, ("road", name(5), name(9), ("bank",)))
        self.due(("order", 0), book, ("road", name(5), name(2), ("bank",)))
        self.due(("order", 0), book, ("road", name(2), name(2), ("bank",)))
        self.due(("leaves", 0), book, ("road", name(1), name(5), ("bank",)))
        self.due(("leaves", 1), book, ("road", name(1), name(5), ("none",)))
        self.due(("leaves", 2), book, ("road", name(1), name(5), ("post",)))
        self.due(("leaves", 3), book, ("road", name(1), name(5), ("press",)))
        self.due(("from", 0), book, ("road", name(1), name(5), DOWN))
        self.due(("from", 0), book, ("road", name(1), name(2), ()))
        self.due(("to", 0), book, ("road", name(1), name(2), self.ALL_BUT_NONE))
        self.due(("to", 0), book, ("road", name(1), name(5), ("bank", "none", "post", "press")))

    def test_pages_that_do_not_count_or_do_not_name_the_note(self):
        book = (
            move(name(1)), move(name(2), "press", "bank", (("a", 0, 3), ("a", 4, 9), ("b", 3, 4))), bag(name(3)),
            count(name(4)), move(name(5), "press", "bank"), void(name(6), name(5)), read(name(7), name(4)),
            read(name(8), name(3)), move(name(9)),
        )
        self.due(("told", True), book, ("road", name(1), name(9), self.ALL_BUT_NONE))
        self.due(("told", True), book, ("road", name(8), name(9), self.ALL_BUT_NONE))
        for wrong in (name(0), name(2), name(3), name(4), name(5), name(6), name(7), name(9, 1), name(9, 0, "b")):
            self.due(("page", 0), book, ("road", wrong, name(9), self.ALL_BUT_NONE))
            self.due(("page", 0), book, ("road", None, wrong, self.ALL_BUT_NONE))
            self.due(("page", 1), book, ("road", name(1), wrong, self.ALL_BUT_NONE))
            self.due(("page", 0), book, ("road", wrong, wrong, self.ALL_BUT_NONE))

    def test_steps_are_ordered_by_moments(self):
        # The read's own name is behind the move's, its moment is ahead; and the other way about.
        book = (move(name(1)), bag(name(2), "bank", "post"), move(name(4)), read(name(6), name(2)))
        self.due(("told", True), book, ("road", name(6), name(4), DOWN))
        self.due(("order", 0), book, ("road", name(4), name(6), DOWN))
        book = (read(name(1), name(6)), move(name(4)), bag(name(6), "bank", "post"))
        self.due(("to", 0), book, ("road", name(4), name(1), self.ALL_BUT_NONE))
        self.due(("order", 0), book, ("road", name(1), name(4), DOWN))

    def test_steps_of_one_moment(self):
        book = (bag(name(2)), read(name(4), name(2)), read(name(5), name(2)))
        self.due(("order", 0), book, ("road", name(4), name(5), DOWN))
        self.due(("order", 0), book, ("road", name(5), name(4), DOWN))
        self.due(("to", 0), book, ("road", None, name(5), ("bank", "none", "post", "press")))

    def test_the_to_and_from_of_bags(self):
        office = (WORTHS, (("bank", "post"), ("none", "press"), ("press", "bank")))
        book = (bag(name(2), "bank", "post"), move(name(5), "press", "bank"), read(name(7), name(2)))
        self.due(("told", True), book, ("road", name(7), name(5), ("post",)), office)
        self.due(("leaves", 0), book, ("road", name(7), name(5), ("bank",)), office)
        self.due(("from", 0), book, ("road", name(7), name(5), ()), office)


class SealTest(FalseCase):
    def test_a_move_in_a_seal(self):
        book = (move(name(1)), bag(name(2)), move(name(4), "bank", "post"), read(name(6), name(2)))
        self.due(("told", True), book, ("seal", name(6), name(4)))
        self.due(("order", 0), book, ("seal", name(6), name(1)))
        self.due(("page", 0), book, ("seal", name(4), name(6)))
        self.due(("page", 0), book, ("seal", name(1), name(4)))

    def test_outside_of_a_seal(self):
        book = (move(name(1)), bag(name(2)), read(name(6), name(2)), move(name(7), "bank", "post"))
        self.due(("order", 0), book, ("seal", name(6), name(1)))
        self.due(("order", 0), book, ("seal", name(6), name(7)))

    def test_like_names_are_none(self):
        book = (move(name(1)), bag(name(2)), read(name(6), name(2)))
        self.due(("shape", -1), book, ("seal", name(6), name(6)))
        self.due(("shape", -1), book, ("seal", name(60), name(60)))

    def test_two_reads_of_one_bag(self):
        book = (bag(name(2)), read(name(4), name(2)), read(name(6), name(2)))
        self.due(("told", True), book, ("seal", name(4), name(6)))
        self.due(("told", True), book, ("seal", name(6), name(4)))
        # Reads ahead of their bag have one moment, too.
        book = (read(name(0), name(2)), read(name(1), name(2)), bag(name(2)), read(name(6), name(2)))
        for one in (name(0), name(1), name(6)):
            for other in (name(0), name(1), name(6)):
                self.due(("told", True) if one != other else ("shape", -1), book, ("seal", one, other))

    def test_a_bag_in_a_seal(self):
        book = (bag(name(2)), bag(name(4), "bank", "post"), read(name(6), name(2)), read(name(8), name(4)))
        self.due(("told", True), book, ("seal", name(6), name(8)))
        # The name of the read of day 6 is in the seal from 4 to 8: this shows it, too.
        self.due(("told", True), book, ("seal", name(8), name(6)))

    def test_seals_one_behind_the_other(self):
        book = (bag(name(2)), read(name(3), name(2)), bag(name(4), "bank", "post"), read(name(6), name(4)))
        self.due(("order", 0), book, ("seal", name(3), name(6)))
        self.due(("order", 0), book, ("seal", name(6), name(3)))

    def test_a_reads_own_name_in_a_seal(self):
        # Its bag is ahead of the seal, or behind it.
        book = (bag(name(1)), bag(name(2), "bank", "post"), read(name(4), name(1)), read(name(6), name(2)))
        self.due(("told", True), book, ("seal", name(6), name(4)))
        book = (bag(name(2)), read(name(4), name(8)), read(name(6), name(2)), bag(name(8), "bank", "post"))
        self.due(("told", True), book, ("seal", name(6), name(4)))
        self.due(("order", 0), book, ("seal", name(4), name(6)))

    def test_nothing_is_between_where_the_first_is_not_ahead(self):
        book = (read(name(1), name(6)), move(name(3)), bag(name(6)))
        self.due(("order", 0), book, ("seal", name(1), name(3)))
        book = (read(name(1), name(6)), bag(name(2)), bag(name(6)), read(name(8), name(2)))
        self.due(("order", 0), book, ("seal", name(1), name(8)))
        self.due(("told", True), book, ("seal", name(8), name(1)))

    def test_pages(self):
        book = (
            bag(name(1)), bag(name(2)), count(name(3)), move(name(4), "bank", "post"), read(name(5), name(2)),
            read(name(6), name(1), (("a", 4, 9),)), read(name(7), name(3)), void(name(8), name(9)),
            read(name(9), name(2)),
        )
        self.due(("told", True), book, ("seal", name(5), name(4)))
        for wrong in (name(0), name(1), name(2), name(3), name(6), name(7), name(8), name(9), name(5, 1)):
            self.due(("page", 0), book, ("seal", wrong, name(4)))
            self.due(("page", 0), book, ("seal", wrong, name(99)))
            self.due(("page", 1), book, ("seal", name(5), wrong))
            self.due(("page", 0), book, ("early", wrong))


class EarlyTest(FalseCase):
    def test_reads_ahead_of_their_bag(self):
        book = (read(name(1), name(4)), move(name(2)), bag(name(4)), read(name(6), name(4)))
        self.due(("told", True), book, ("early", name(1)))
        self.due(("order", 0), book, ("early", name(6)))
        self.due(("page", 0), book, ("early", name(2)))
        self.due(("page", 0), book, ("early", name(4)))

    def test_on_one_day(self):
        book = (read(name(1, 0, "a"), name(1, 0, "b")), bag(name(1, 0, "b")), read(name(1, 0, "c"), name(1, 0, "b")))
        self.due(("told", True), book, ("early", name(1, 0, "a")))
        self.due(("order", 0), book, ("early", name(1, 0, "c")))


class AnyThingTest(FalseCase):
    BOOK = (
        move(name(1)), bag(name(2)), move(name(4), "bank", "post"), read(name(6), name(2)), move(name(7)),
        read(name(8), name(9)), bag(name(9)),
    )
    PAPERS = (
        ("road", name(1), name(7), ("bank", "post", "press")), ("road", None, name(7), ("none", "press")),
        ("seal", name(6), name(4)), ("early", name(8)),
    )

    def test_shapes(self):
        for thing in (
            None, True, 0, "", "road", "early", (), [], ("road",), ("seal",), ("early",), ("early", None),
            ("early", name(8), None), ("early", list(name(8))), ["early", name(8)], ("Early", name(8)), (name(8),),
            ("early", (8, 0)), ("early", (8, 0, "a", "a")), ("early", (True, 0, "a")), ("early", (8, False, "a")),
            ("early", (8, 0, "A")), ("early", (100000, 0, "a")), ("early", (8, 1000, "a")), ("early", (-1, 0, "a")),
            ("seal", name(6)), ("seal", name(6), None), ("seal", None, name(6)), ("seal", name(6), name(4), ()),
            ("seal", name(6), [4, 0, "a"]), ("road", name(1), name(7)), ("road", name(1), None, ("bank",)),
            ("road", None, None, ("bank",)), ("road", name(1), name(7), None), ("road", name(1), name(7), ["bank"]),
            ("road", name(1), name(7), ("mars",)), ("road", name(1), name(7), ("post", "bank")),
            ("road", name(1), name(7), ("bank", "bank")), ("road", name(1), name(7), ("bank",), None),
            ("road", False, name(7), ("bank",)), ("road", 0, name(7), ("bank",)), ("road", (), name(7), ("bank",)),
            ("late", name(8)), ("seal", name(8)), ("early", name(6), name(4)), ("cut", ("bank",)), nested(50),
        ):
            self.due(("shape", -1), self.BOOK, thing)

    def test_variants(self):
        for paper in self.PAPERS:
            for thing in list(JUNK) + list(variants(paper)):
                self.same_or_no_paper(
                    false_due(OFFICE, self.BOOK, NOTE, thing), lets_false, OFFICE, self.BOOK, NOTE, thing)
            for thing in list(only_lists_for_tuples(paper)) + list(only_truths_for_numbers(paper)):
                self.due(("shape", -1), self.BOOK, thing)

    def test_notes_that_no_page_names(self):
        for note in (("a", 5), ("b", 3), ("c", 0), ("a", 999999999)):
            for paper in self.PAPERS:
                self.due(("page", 0), self.BOOK, paper, note=note)
        self.due(("page", 0), (), ("early", name(8)))


class RandomTest(FalseCase):
    def test_all_papers_of_random_books(self):
        chance = random.Random(151)
        words = {}
        for at in range(60):
            office = random_office(chance, most=6)
            book = random_book(chance, 12, office[1])
            note = chance.choice(ALL_NOTES)
            if at % 2 and any(road[0] != "none" for road in office[1]):
                book, note = sealed_book(chance, office[1]), NOTE
            names = [at for at, deed in book] + [name(77)]
            told = [step[3] for step in steps(book, note)]
            papers = [("early", one) for one in names] + [("seal", one, other) for one in names for other in names]
            sets = list(all_sets(office))
            papers += [("road", one, other, chance.choice(sets)) for one in names + [None] for other in names]
            papers += [("road", one, other, some) for one in told[:1] + [None] for other in told[-1:] for some in sets]
            for paper in papers:
                due = false_due(office, book, note, paper)
                words[paper[0], due[0]] = words.get((paper[0], due[0]), 0) + 1
                self.same_or_no_paper(due, lets_false, office, book, note, paper)
        for word in ("page", "order", "leaves", "from", "to", "told"):
            self.assertGreater(words.get(("road", word), 0), 20, word)
        for word in ("seal", "early"):
            for other in ("page", "order", "told"):
                self.assertGreater(words.get((word, other), 0), 5, (word, other))
