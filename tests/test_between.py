"""Between the steps: points [50], [51] and [52]."""

import random

from pressnotes.between import between, between_paper, lets_between
from tests.support import (
    JUNK, PlainCase, all_sets, cut_due, distances, office_places, only_lists_for_tuples, random_office, set_like,
    variants,
)
from tests.test_bags import true_book
from tests.test_books import bag, move, name, random_book, read
from tests.test_falsehoods import is_false_due
from tests.test_offices import OFFICE, WORTHS
from tests.test_steps import ALL_NOTES, seals_due, steps_due

NOTE = ("a", 3)
ALL = ("bank", "none", "post", "press")


def ends_due(book, note, i):
    told = steps_due(book, note)
    begin = "none" if i == 0 else told[i - 1][2]
    return begin, None if i == len(told) else told[i][1]


def places_due(office, book, note, i):
    """The places of [50], told by how far they are."""
    far = distances(office)
    begin, end = ends_due(book, note, i)
    return tuple(place for place in office_places(office)
                 if far[begin, place] is not None and (end is None or far[place, end] is not None))


def walked_on(office, book, note, k, can):
    """Where walks that suit have a note that is not false, from the moments ahead of the k-th name on.

    For the moments ahead of each name, and for those behind the last, the set of places, at whatever moment of these.
    """
    names = [at for at, deed in book]
    found = []
    for at in range(k, len(names) + 1):
        is_sealed = at > 0 and any(begin <= names[at - 1] < end for begin, end in seals_due(book, note))
        for _ in office[1] if not is_sealed else ():
            can = can | {end for start, end in office[1] if start in can}
        found.append(can)
        for step in steps_due(book, note):
            if at < len(names) and step[0] == names[at]:
                can = {step[2]} if step[1] in can else set()
    return found


def walked_due(office, book, note, i):
    """The places where some walk that suits has the note, which is not false, between the two steps."""
    names = [at for at, deed in book]
    moments = [step[0] for step in steps_due(book, note)]
    first = names.index(moments[i - 1]) + 1 if i else 0
    last = names.index(moments[i]) if i < len(moments) else len(names)
    onward = walked_on(office, book, note, 0, {"none"})
    found = set()
    for at in range(first, last + 1):
        found |= {place for place in onward[at] if walked_on(office, book, note, at, {place})[-1]}
    return tuple(sorted(found))


def row_due(office, row, one, other):
    """The least k such that the row's place k is none of its own, None of a ROW OF ROADS."""
    faults = [] if row and row[-1] == other else [len(row)]
    faults += [k for k in range(1, len(row)) if (row[k - 1], row[k]) not in office[1]]
    faults += [0] if row and row[0] != one else []
    return min(faults) if faults else None


def rows_like(office, thing):
    return type(thing) is tuple and all(type(place) is str and place in office_places(office) for place in thing)


def between_due(office, book, note, i, place, thing):
    """What any thing is as a paper, by the words of [51]."""
    begin, end = ends_due(book, note, i)
    if type(thing) is not tuple or thing == () or type(thing[0]) is not str:
        return ("shape", -1)
    if thing[0] == "at" and len(thing) == 3 and rows_like(office, thing[1]) and rows_like(office, thing[2]):
        fault = row_due(office, thing[1], begin, place)
        if fault is not None:
            return ("one", fault)
        fault = row_due(office, thing[2], place, end) if end is not None else 0 if thing[2] else None
        return ("told", True) if fault is None else ("other", fault)
    if len(thing) != 2 or not set_like(office, thing[1]) or thing[0] not in ("out", "on"):
        return ("shape", -1)
    if thing[0] == "on" and end is None:
        return ("shape", -1)
    due = cut_due(office, begin, place, thing[1]) if thing[0] == "out" else cut_due(office, place, end, thing[1])
    return ("told", False) if due == ("told", True) else due


class BetweenTest(PlainCase):
    BOOK = (move(name(1)), move(name(4), "bank", "post"))

    def test_each_i(self):
        for i, due in enumerate((("none",), ("bank", "post", "press"), ("bank", "post"))):
            self.same(due, between, OFFICE, self.BOOK, NOTE, i)

    def test_no_way_back(self):
        office = (WORTHS, (("bank", "post"), ("none", "press"), ("press", "bank"), ("press", "mint")))
        for i, due in enumerate((("none",), ("bank", "press"), ("post",))):
            self.same(due, between, office, self.BOOK, NOTE, i)
        self.same(("bank", "none", "press"), between, office, self.BOOK[1:], NOTE, 0)
        self.same(("bank", "mint", "post", "press"), between, office, self.BOOK[:1], NOTE, 1)

    def test_a_note_without_steps(self):
        self.same(ALL, between, OFFICE, self.BOOK, ("a", 5), 0)
        self.same(ALL, between, OFFICE, (), NOTE, 0)
        self.same(("none",), between, (WORTHS, (("bank", "post"),)), (), NOTE, 0)

    def test_a_false_note(self):
        book = (move(name(1)), move(name(2)), move(name(4), "bank", "post"))
        for i, due in enumerate((("none",), (), ("bank", "post", "press"), ("bank", "post"))):
            self.same(due, between, OFFICE, book, NOTE, i)

    def test_by_the_roads_of_bags_at_their_moments(self):
        book = (move(name(1)), bag(name(3), "bank", "post"), read(name(6), name(3)))
        for i, due in enumerate((("none",), ("bank", "post", "press"), ("bank", "post"))):
            self.same(due, between, OFFICE, book, NOTE, i)

    def test_random_books(self):
        chance = random.Random(191)
        some = 0
        walked = 0
        for at in range(200):
            office = random_office(chance)
            book = random_book(chance, 14, office[1]) if at % 2 else true_book(chance, office)
            for note in chance.sample(ALL_NOTES, 3) + [NOTE]:
                for i in range(len(steps_due(book, note)) + 1):
                    due = places_due(office, book, note, i)
                    some += 1 < len(due) < len(office_places(office))
                    self.same(due, between, office, book, note, i)
                    if not is_false_due(office, book, note):
                        walked += 1
                        self.assertEqual(walked_due(office, book, note, i), due)
        self.assertGreater(min(some, walked), 100)


class PaperCase(PlainCase):
    def due(self, due, i, place, thing, office=OFFICE, book=BetweenTest.BOOK, note=NOTE):
        """The checker tells what is due, and so does the oracle of this file."""
        self.assertEqual(due, between_due(office, book, note, i, place, thing))
        self.same_or_no_paper(due, lets_between, office, book, note, i, place, thing)


class LetsAtTest(PaperCase):
    def test_right_ones(self):
        self.due(("told", True), 0, "none", ("at", ("none",), ("none",)))
        self.due(("told", True), 1, "press", ("at", ("press",), ("press", "bank")))
        self.due(("told", True), 1, "bank", ("at", ("press", "bank"), ("bank",)))
        self.due(("told", True), 1, "post", ("at", ("press", "bank", "post"), ("post", "bank")))
        self.due(("told", True), 2, "post", ("at", ("post",), ()))
        self.due(("told", True), 2, "bank", ("at", ("post", "bank"), ()))
        # Rows needn't be the shortest ones.
        self.due(("told", True), 1, "bank", ("at", ("press", "bank", "post", "bank"), ("bank", "post", "bank")))

    def test_one(self):
        rest = ("bank",)
        for row, k in (
            ((), 0), (("bank",), 0), (("none", "press", "bank"), 0), (("post", "bank"), 0), (("press", "post"), 1),
            (("press", "press", "bank"), 1), (("press", "bank", "press", "bank"), 2), (("press", "none"), 1),
            (("press", "bank", "bank"), 2), (("press",), 1), (("press", "bank", "post"), 3),
            (("press", "post", "press"), 1), (("bank", "none"), 0),
        ):
            self.due(("one", k), 1, "bank", ("at", row, rest))

    def test_one_goes_ahead_of_other(self):
        self.due(("one", 0), 1, "bank", ("at", (), ()))
        self.due(("one", 1), 1, "bank", ("at", ("press",), ("press",)))
        self.due(("one", 0), 2, "bank", ("at", ("bank",), ("bank",)))

    def test_other(self):
        rest = ("press", "bank", "post")
        for row, k in (
            ((), 0), (("bank",), 0), (("press", "bank"), 0), (("post",), 1), (("post", "post", "bank"), 1),
            (("post", "press", "bank"), 1), (("post", "bank", "post"), 3), (("post", "bank", "bank"), 2),
            (("post", "bank", "none"), 2),
        ):
            self.due(("other", k), 1, "post", ("at", rest, row))

    def test_other_where_there_is_no_end(self):
        for row in (("post",), ("bank",), ("post", "bank"), ("none", "none")):
            self.due(("other", 0), 2, "post", ("at", ("post",), row))
        self.due(("other", 0), 0, "none", ("at", ("none",), ("none",)), note=("a", 7))
        self.due(("told", True), 0, "none", ("at", ("none",), ()), note=("a", 7))
        self.due(("told", True), 0, "press", ("at", ("none", "press"), ()), note=("a", 7))


class LetsSetTest(PaperCase):
    def test_out(self):
        self.due(("told", False), 1, "none", ("out", ("bank", "post", "press")))
        self.due(("told", False), 2, "press", ("out", ("bank", "post")))
        self.due(("told", False), 2, "none", ("out", ("bank", "post", "press")))
        self.due(("leaves", 0), 2, "press", ("out", ("bank",)))
        self.due(("leaves", 1), 2, "press", ("out", ("bank", "none", "post")))
        self.due(("leaves", 2), 2, "press", ("out", ("post",)))
        self.due(("leaves", 3), 2, "press", ("out", ("press",)))
        self.due(("from", 0), 2, "press", ("out", ()))
        self.due(("from", 0), 1, "none", ("out", ("bank", "post")))
        self.due(("from", 0), 1, "bank", ("out", ("bank", "post")))
        self.due(("to", 0), 2, "bank", ("out", ("bank", "post")))
        self.due(("to", 0), 2, "press", ("out", ALL))

    def test_on(self):
        self.due(("told", False), 0, "bank", ("on", ("bank", "post")))
        self.due(("told", False), 0, "press", ("on", ("bank", "post", "press")))
        self.due(("leaves", 0), 0, "bank", ("on", ("bank",)))
        self.due(("leaves", 1), 0, "none", ("on", ("none",)))
        self.due(("from", 0), 0, "press", ("on", ("bank", "post")))
        self.due(("from", 0), 0, "none", ("on", ("bank", "post", "press")))
        self.due(("to", 0), 1, "post", ("on", ("bank", "post")))
        self.due(("to", 0), 0, "bank", ("on", ALL))

    def test_on_without_an_end_is_no_paper(self):
        self.due(("shape", -1), 2, "bank", ("on", ("bank", "post")))
        self.due(("shape", -1), 2, "press", ("on", ()))
        self.due(("shape", -1), 0, "press", ("on", ("bank",)), note=("a", 7))


class AnyThingTest(PaperCase):
    def test_shapes(self):
        for thing in (
            None, True, 0, "", "at", (), [], ("at",), ("out",), ("on",), ("at", ("press",)), ("at", ("press",), None),
            ("at", None, ("press",)), ("at", ["press"], ("press", "bank")), ("at", ("press",), ["press", "bank"]),
            ["at", ("press",), ("press", "bank")], ("at", ("press",), ("press", "mars")), ("at", ("mars",), ("press",)),
            ("at", ("press", None), ("press",)), ("at", ("press", 1), ("press",)), ("at", ("press",), ("press", ())),
            ("at", ("press",), ("press", "bank"), ()), ("at", "press", "bank"), ("At", ("press",), ("press", "bank")),
            ("out", None), ("out", ["bank"]), ("out", ("post", "bank")), ("out", ("bank", "bank")), ("out", ("mars",)),
            ("out", ("bank",), ("post",)), ("out", "bank"), ("in", ("bank",)), ("on", ["bank"]), (("bank",), "out"),
            ("on", ("bank", None)), ("out", ("bank",), ()), ("on", ("bank",), ()), ("at", ("bank",)), (None, ("bank",)),
        ):
            self.due(("shape", -1), 1, "press", thing)

    def test_variants(self):
        for i, place, paper in (
            (1, "post", ("at", ("press", "bank", "post"), ("post", "bank"))), (2, "post", ("at", ("post",), ())),
            (2, "press", ("out", ("bank", "post"))), (0, "bank", ("on", ("bank", "post"))),
        ):
            for thing in list(JUNK) + list(variants(paper)):
                self.due(between_due(OFFICE, BetweenTest.BOOK, NOTE, i, place, thing), i, place, thing)
            for thing in only_lists_for_tuples(paper):
                self.due(("shape", -1), i, place, thing)


class BetweenPaperTest(PlainCase):
    def test_told_papers_are_let_by(self):
        chance = random.Random(192)
        words = {}
        for at in range(150):
            office = random_office(chance)
            book = random_book(chance, 14, office[1]) if at % 2 else true_book(chance, office)
            for note in chance.sample(ALL_NOTES, 2) + [NOTE]:
                for i in range(len(steps_due(book, note)) + 1):
                    among = places_due(office, book, note, i)
                    for place in office_places(office):
                        told = self.ask(between_paper, office, book, note, i, place)
                        self.assertIs(tuple, type(told))
                        truth, paper = told
                        words[paper[0]] = words.get(paper[0], 0) + 1
                        self.assertIs(place in among, truth)
                        self.assertEqual(("told", truth), between_due(office, book, note, i, place, paper))
                        self.same(truth, lets_between, office, book, note, i, place, paper)
        self.assertGreater(min(words.get(word, 0) for word in ("at", "out", "on")), 50)

    def test_just_one_of_both_truths_has_a_paper(self):
        chance = random.Random(193)
        shown = {True: 0, False: 0}
        for at in range(60):
            office = random_office(chance, ("none", "press", "bank", "post"), 6)
            book = true_book(chance, office) if at % 3 else random_book(chance, 10, office[1])
            places = office_places(office)
            rows = [()] + [(one,) for one in places] + [(one, other) for one in places for other in places]
            rows += [row + (one,) for row in rows if len(row) == 2 for one in places]
            papers = [(word, some) for word in ("out", "on") for some in all_sets(office)]
            papers += [("at", one, chance.choice(rows + [()] * 20)) for one in rows for _ in range(3)]
            note = max(ALL_NOTES, key=lambda one: len(steps_due(book, one)))
            for i in range(len(steps_due(book, note)) + 1):
                among = places_due(office, book, note, i)
                place = chance.choice(places)
                for paper in papers:
                    due = between_due(office, book, note, i, place, paper)
                    self.same_or_no_paper(due, lets_between, office, book, note, i, place, paper)
                    if due[0] == "told":
                        shown[due[1]] += 1
                        self.assertIs(place in among, due[1])
        self.assertGreater(min(shown.values()), 10)
