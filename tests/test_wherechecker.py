"""The checker of papers of where a missing note can be: point [62]."""

import itertools
import random

from pressnotes.wherechecker import lets_where
from pressnotes.whereabouts import where_paper
from tests.support import (
    BIG, JUNK, TOP, PlainCase, all_sets, cut_due, office_places, only_lists_for_tuples, only_truths_for_numbers,
    random_office, set_like, variants,
)
from tests.test_bags import ALWAYS, SOME_NOTES, all_answers, bags_due, can_lie_due, supplies_due, true_book
from tests.test_books import bag, move, name, read
from tests.test_fillchecker import BOOK, RIGHT, can_take_due, filling_due, wanted_due
from tests.test_filling import all_fillings, has_world
from tests.test_offices import OFFICE, WORTHS
from tests.test_pages import name_like
from tests.test_steps import steps_due

SIZES = {"unmade": 1, "in": 2, "free": 3, "late": 1, "spent": 1, "cut": 2, "tight": 2}
ONLY_OF = {"in": "bag", "free": "at", "late": "bag", "spent": "bag"}


def way_due(office, way, start, end):
    """The place of way's fault, None where it has none."""
    if type(way) is not tuple or len(way) == 0:
        return 0
    for k in range(len(way)):
        if k == 0 and way[0] != start or k > 0 and not any((way[k - 1], way[k]) == road for road in office[1]):
            return k
    return None if way[-1] == end else len(way)


def given_due(office, book, answer, supply, thing):
    """What an "in" or a "free" is."""
    due = filling_due(office, book, thing[1])
    if due != ("told", True):
        return due
    if thing[0] == "in":
        is_given = any(row[0] == supply and row[1] == answer[1] for row in thing[1])
        return ("told", True) if is_given else ("given", -1)
    place, notes = supplies_due(book)[supply]
    if sum(row[2] for row in thing[1] if row[0] == supply) == len(notes):
        return ("given", -1)
    fault = way_due(office, thing[2], place, answer[1])
    return ("told", True) if fault is None else ("way", fault)


def tight_due(office, book, answer, supply, names):
    want = wanted_due(book)
    if type(names) is not tuple or not all(name_like(at) for at in names) or list(names) != sorted(set(names)):
        return ("shape", -1)
    for k, at in enumerate(names):
        if at not in want or ("bag", at) == answer:
            return ("names", k)
    if not any(can_lie_due(office, book, supply, at) for at in names):
        return ("supply", -1)
    if sum(want[at] for at in names) != can_take_due(office, book, names):
        return ("tight", -1)
    return ("told", False)


def made_due(office, book, answer, supply, thing):
    """What a paper of a note that has a step is, its answer of the right word."""
    if thing[0] in ("in", "free"):
        return given_due(office, book, answer, supply, thing)
    if thing[0] == "late":
        return ("late", -1) if supply < answer[1] else ("told", False)
    if thing[0] == "spent":
        return ("spent", -1) if answer[1] in wanted_due(book) else ("told", False)
    if thing[0] == "tight":
        return tight_due(office, book, answer, supply, thing[1])
    end = bags_due(book)[answer[1]][1] if answer[0] == "bag" else answer[1]
    if not set_like(office, thing[1]):
        return ("shape", -1)
    due = cut_due(office, supplies_due(book)[supply][0], end, thing[1])
    return ("told", False) if due == ("told", True) else due


def where_due(office, book, note, answer, thing):
    """What any thing is as a paper of the answer, by the words of [62]."""
    if type(thing) is not tuple or len(thing) == 0 or type(thing[0]) is not str or thing[0] not in SIZES:
        return ("shape", -1)
    if SIZES[thing[0]] != len(thing):
        return ("shape", -1)
    told = steps_due(book, note)
    if (thing[0] == "unmade") == (len(told) > 0):
        return ("step", -1)
    if thing[0] == "unmade":
        return ("told", answer == ("at", "none"))
    if ONLY_OF.get(thing[0], answer[0]) != answer[0]:
        return ("answer", -1)
    return made_due(office, book, answer, told[-1][3], thing)


# Beside RIGHT: of the supply of day 1 two notes, of that of day 3 two of three.
OTHER = ((name(1), name(2), 1), (name(1), name(5), 1), (name(3), name(5), 2))
# All five of the supply of day 1 are in the bag of day 2; the bag of day 4 has notes of its own.
TIGHT = (move(name(1)), bag(name(2), many=5), move(name(3), runs=(("b", 0, 3),)), bag(name(4), many=2))
ALL_PAPERS = (
    ("unmade",), ("in", RIGHT), ("free", RIGHT, ("press",)), ("late",), ("spent",), ("cut", ("bank", "post")),
    ("tight", (name(2),)),
)
NOTE = ("a", 3)


class WhereCase(PlainCase):
    def due(self, due, answer, thing, note=NOTE, book=BOOK, office=OFFICE):
        """The checker tells what is due; the oracle of this file does, too."""
        self.assertEqual(due, where_due(office, book, note, answer, thing), thing)
        self.same_or_no_paper(due, lets_where, office, book, note, answer, thing)

    def as_due(self, answer, thing, note=NOTE, book=BOOK, office=OFFICE):
        due = where_due(office, book, note, answer, thing)
        self.same_or_no_paper(due, lets_where, office, book, note, answer, thing)
        return due


class ShapeTest(WhereCase):
    def test_words_and_how_many_things(self):
        for word, many in SIZES.items():
            for size in range(1, 6):
                if size != many:
                    for answer in (("bag", name(2)), ("at", "bank"), ("at", "none")):
                        for note in (NOTE, ("a", 9)):
                            self.due(("shape", -1), answer, (word,) + (RIGHT,) * (size - 1), note)

    def test_no_papers(self):
        for thing in (
            None, True, 0, "", "unmade", "late", (), [], ["unmade"], ["late"], (None,), (True,), (("late",),),
            ("Late",), ("late ",), ("lat",), ("bag", name(2)), ("at", "bank"), ("filled", RIGHT), ("short", (name(2),)),
            (["late"],), ((),), ([],), ("in", RIGHT, None), ("in",), ("free", RIGHT), (RIGHT, "in"), (True, RIGHT),
        ):
            for answer in (("bag", name(2)), ("at", "bank")):
                for note in (NOTE, ("a", 9)):
                    self.due(("shape", -1), answer, thing, note)

    def test_any_thing(self):
        answers = (("bag", name(2)), ("bag", name(6)), ("at", "bank"), ("at", "none"))
        for thing in JUNK:
            for answer in answers:
                self.due(("shape", -1), answer, thing)
                self.due(("shape", -1), answer, thing, ("c", 0))

    def test_things_near_to_papers(self):
        words = {}
        for paper in ALL_PAPERS:
            for answer in (("bag", name(2)), ("at", "bank")):
                for thing in variants(paper):
                    word = self.as_due(answer, thing)[0]
                    words[word] = words.get(word, 0) + 1
        for word in ("told", "shape", "step", "answer", "row", "supply", "bag", "way", "late", "spent", "leaves",
                     "from", "names", "tight"):
            self.assertGreater(words.get(word, 0), 0, words)

    def test_kinds_within(self):
        for paper in (("in", RIGHT), ("tight", (name(2), name(5)))):
            for thing in list(only_lists_for_tuples(paper)) + list(only_truths_for_numbers(paper)):
                self.due(("shape", -1), ("bag", name(2)), thing)


class StepTest(WhereCase):
    def test_unmade_of_a_note_without_a_step(self):
        for note in (("a", 5), ("b", 2), ("c", 0), ("d", TOP - 1)):
            self.due(("told", True), ("at", "none"), ("unmade",), note)
            for answer in (("at", "press"), ("at", "bank"), ("bag", name(2)), ("bag", name(6))):
                self.due(("told", False), answer, ("unmade",), note)
        self.due(("told", True), ("at", "none"), ("unmade",), NOTE, ())

    def test_unmade_of_a_note_with_a_step(self):
        for note in (NOTE, ("a", 0), ("b", 1)):
            for answer in (("at", "none"), ("at", "press"), ("bag", name(2))):
                self.due(("step", -1), answer, ("unmade",), note)

    def test_all_others_of_a_note_without_a_step(self):
        # A step is asked for ahead of the answer's word and of all that stands in the paper.
        for paper in ALL_PAPERS[1:] + (("in", None), ("free", None, None), ("cut", None), ("tight", None)):
            for answer in (("at", "none"), ("at", "bank"), ("bag", name(2)), ("bag", name(6))):
                self.due(("step", -1), answer, paper, ("a", 7))

    def test_answers_of_the_other_word(self):
        for paper in (("in", RIGHT), ("in", None), ("late",), ("spent",)):
            for place in ("none", "press", "bank", "post"):
                self.due(("answer", -1), ("at", place), paper)
        for paper in (("free", RIGHT, ("press",)), ("free", None, None), ("free", (), ())):
            for at in (name(2), name(5), name(6)):
                self.due(("answer", -1), ("bag", at), paper)


class GivenTest(WhereCase):
    def test_in(self):
        self.due(("told", True), ("bag", name(2)), ("in", RIGHT))
        self.due(("given", -1), ("bag", name(5)), ("in", RIGHT))
        self.due(("given", -1), ("bag", name(6)), ("in", RIGHT))
        self.due(("told", True), ("bag", name(5)), ("in", OTHER))
        self.due(("told", True), ("bag", name(5)), ("in", RIGHT), ("a", 0))
        self.due(("given", -1), ("bag", name(2)), ("in", RIGHT), ("a", 0))
        self.due(("given", -1), ("bag", name(5)), ("in", RIGHT), ("b", 0))

    def test_fillings_are_refused_ahead_of_all_else(self):
        wrong = (
            ("shape", -1, None), ("shape", -1, RIGHT[::-1]), ("shape", -1, ((name(1), name(2), True),)),
            ("shape", -1, list(RIGHT)), ("row", 0, ((name(0), name(2), 1),)),
            ("row", 1, ((name(1), name(2), 1), (name(1), name(6), 1))),
            ("supply", 0, ((name(1), name(2), 1), (name(1), name(5), 2))), ("supply", 1, ((name(3), name(5), BIG),)),
            ("bag", 0, ()), ("bag", 1, ((name(1), name(2), 1),)), ("bag", 0, ((name(3), name(5), 3),)),
        )
        for word, k, rows in wrong:
            for at in (name(2), name(5), name(6)):
                self.due((word, k), ("bag", at), ("in", rows))
            for way in (("press",), ("press", "bank"), (), None, ("mint",)):
                self.due((word, k), ("at", "bank"), ("free", rows, way))

    def test_free(self):
        self.due(("told", True), ("at", "press"), ("free", RIGHT, ("press",)))
        self.due(("told", True), ("at", "bank"), ("free", RIGHT, ("press", "bank")))
        self.due(("told", True), ("at", "bank"), ("free", RIGHT, ("press", "bank", "post", "bank")))
        self.due(("told", True), ("at", "post"), ("free", OTHER, ("bank", "post")), ("a", 0))
        self.due(("told", True), ("at", "bank"), ("free", OTHER, ("bank",)), ("b", 0))

    def test_all_notes_of_the_supply_are_taken(self):
        for way in (("bank",), (), None, ("press",)):
            self.due(("given", -1), ("at", "bank"), ("free", RIGHT, way), ("a", 0))
            self.due(("given", -1), ("at", "bank"), ("free", OTHER, way))

    def test_ways(self):
        for k, way in (
            (0, ()), (0, []), (0, None), (0, "press"), (0, True), (0, 0), (0, ["press", "bank"]), (0, ("bank",)),
            (0, ("none", "press", "bank")), (0, (None,)), (0, (True, "bank")), (0, (("press",), "bank")),
            (0, ("bank", "press")), (1, ("press",)), (1, ("press", "press", "bank")), (1, ("press", "post")),
            (1, ("press", "none", "press", "bank")), (1, ("press", None)), (1, ("press", ["bank"])),
            (1, ("press", "mint", "bank")), (2, ("press", "bank", "press", "bank")), (2, ("press", "bank", "bank")),
            (2, ("press", "bank", True)), (3, ("press", "bank", "post")), (3, ("press", "bank", "post", "press")),
            (4, ("press", "bank", "post", "bank", None)), (5, ("press", "bank", "post", "bank", "post")),
        ):
            self.due(("way", k), ("at", "bank"), ("free", RIGHT, way))

    def test_any_thing_as_way(self):
        for way in list(JUNK) + list(variants(("press", "bank", "post"))):
            self.as_due(("at", "post"), ("free", RIGHT, way))


class LateAndSpentTest(WhereCase):
    def test_late(self):
        self.due(("told", False), ("bag", name(2)), ("late",), ("a", 0))
        self.due(("told", False), ("bag", name(6)), ("late",), ("b", 0))
        self.due(("told", False), ("bag", name(5)), ("late",), ("b", 0))
        for note, at in ((NOTE, 2), (NOTE, 5), (NOTE, 6), (("a", 0), 5), (("a", 0), 6)):
            self.due(("late", -1), ("bag", name(at)), ("late",), note)

    def test_late_goes_by_names(self):
        book = (bag(name(2)), move(name(2, 0, "b")), bag(name(2, 1), many=1))
        self.due(("told", False), ("bag", name(2)), ("late",), NOTE, book)
        self.due(("late", -1), ("bag", name(2, 1)), ("late",), NOTE, book)
        # The supply of a read is the read, not its bag.
        book = (move(name(1)), bag(name(2), many=2), bag(name(3), many=1), read(name(4), name(2), (("a", 3, 4),)))
        self.due(("told", False), ("bag", name(3)), ("late",), NOTE, book)
        self.due(("late", -1), ("bag", name(3)), ("late",), ("a", 0), book)

    def test_spent(self):
        self.due(("told", False), ("bag", name(6)), ("spent",))
        self.due(("told", False), ("bag", name(6)), ("spent",), ("b", 0))
        for at in (name(2), name(5)):
            self.due(("spent", -1), ("bag", at), ("spent",))


class CutTest(WhereCase):
    def test_of_a_place(self):
        self.due(("told", False), ("at", "none"), ("cut", ("bank", "post", "press")))
        self.due(("told", False), ("at", "press"), ("cut", ("bank", "post")), ("a", 0))
        self.due(("to", 0), ("at", "bank"), ("cut", ("bank", "post", "press")))
        self.due(("from", 0), ("at", "none"), ("cut", ("bank", "post")))
        self.due(("leaves", 3), ("at", "none"), ("cut", ("press",)))
        self.due(("leaves", 0), ("at", "none"), ("cut", ("bank", "press")))
        for thing in (None, [], ["bank"], ("post", "bank"), ("bank", "bank"), ("mint",), (None,), "bank", True):
            self.due(("shape", -1), ("at", "none"), ("cut", thing))
        self.due(("from", 0), ("at", "none"), ("cut", ()))

    def test_of_a_bag(self):
        self.due(("told", False), ("bag", name(2)), ("cut", ("bank", "post")), ("a", 0))
        self.due(("to", 0), ("bag", name(5)), ("cut", ("bank", "post")), ("a", 0))
        self.due(("from", 0), ("bag", name(2)), ("cut", ("bank", "post")))
        self.due(("shape", -1), ("bag", name(2)), ("cut", name(2)))
        # A bag all read is barred by a cut, too.
        self.due(("told", False), ("bag", name(6)), ("cut", ("bank", "post")), ("b", 0))

    def test_all_sets(self):
        for note in (NOTE, ("a", 0), ("b", 1)):
            for answer in all_answers(OFFICE, BOOK):
                for places in all_sets(OFFICE):
                    self.as_due(answer, ("cut", places), note)


class TightTest(WhereCase):
    def due_tight(self, due, answer, thing, note=NOTE, book=TIGHT, office=OFFICE):
        self.due(due, answer, ("tight", thing), note, book, office)

    def test_right_ones(self):
        for answer in (("bag", name(4)), ("at", "press"), ("at", "bank"), ("at", "none")):
            self.due_tight(("told", False), answer, (name(2),))

    def test_shape(self):
        for thing in (
            None, True, [], [name(2)], name(2), (name(4), name(2)), (name(2), name(2)), (None,), ((2, 0),), "",
            (name(2), 1),
            ((2, False, "a"),), (list(name(2)),), ((name(2),),), ((-1, 0, "a"),),
        ):
            self.due_tight(("shape", -1), ("at", "bank"), thing)
            self.due_tight(("shape", -1), ("bag", name(2)), thing)

    def test_names(self):
        self.due_tight(("names", 0), ("bag", name(2)), (name(2),))
        self.due_tight(("names", 1), ("bag", name(4)), (name(2), name(4)))
        self.due_tight(("names", 0), ("at", "bank"), (name(0), name(2)))
        self.due_tight(("names", 1), ("at", "bank"), (name(2), name(3), name(4)))
        self.due_tight(("names", 2), ("at", "bank"), (name(2), name(4), name(9)))
        self.due_tight(("names", 0), ("at", "bank"), (name(6),), NOTE, BOOK)
        self.due_tight(("names", 1), ("at", "bank"), (name(5), name(8)), NOTE, BOOK)
        # Ahead of the supply, and of whether it is tight.
        self.due_tight(("names", 0), ("at", "bank"), (name(1),), ("b", 0))

    def test_supply(self):
        self.due_tight(("supply", -1), ("at", "bank"), ())
        self.due_tight(("supply", -1), ("bag", name(4)), (name(2),), ("b", 0))
        # Their unread ones aren't as many as they can take, either: the supply goes ahead.
        self.due_tight(("supply", -1), ("at", "bank"), (name(2),), ("a", 0), BOOK)

    def test_tight(self):
        self.due_tight(("tight", -1), ("at", "bank"), (name(4),))
        self.due_tight(("tight", -1), ("at", "bank"), (name(2), name(4)))
        self.due_tight(("tight", -1), ("bag", name(5)), (name(2),), NOTE, BOOK)

    def test_any_thing(self):
        for thing in list(JUNK) + list(variants((name(2), name(4)))):
            for answer in (("at", "bank"), ("bag", name(4))):
                due = where_due(OFFICE, TIGHT, NOTE, answer, ("tight", thing))
                self.due_tight(due, answer, thing)

    def test_great_numbers(self):
        book = (move(name(1), runs=(("a", 0, TOP),)), bag(name(2), many=TOP - 1), bag(name(3), "bank", "post", 1))
        ask = (OFFICE, book, ("a", 77))
        rows = ((name(1), name(2), TOP - 1), (name(1), name(3), 1))
        self.same(False, lets_where, *ask, ("at", "bank"), ("tight", (name(2), name(3))))
        self.same(True, lets_where, *ask, ("bag", name(3)), ("in", rows))
        self.same_or_no_paper(("tight", -1), lets_where, *ask, ("at", "bank"), ("tight", (name(2),)))
        self.same_or_no_paper(("given", -1), lets_where, *ask, ("at", "press"), ("free", rows, ("press",)))


class RandomTest(WhereCase):
    def papers(self, office, book, note):
        """Papers of all words, with all fillings, sets and bags, and the shortest ways."""
        fillings = all_fillings(office, book, 400) or []
        names = list(wanted_due(book))
        some = [part for size in range(len(names) + 1) for part in itertools.combinations(names, size)]
        ways = [(one,) for one in office_places(office)] + list(office[1])
        ways += [one + other[1:] for one in office[1] for other in office[1] if one[1] == other[0]]
        papers = [("unmade",), ("late",), ("spent",)] + [("in", rows) for rows in fillings]
        papers += [("free", rows, way) for rows in fillings for way in ways]
        return papers + [("cut", places) for places in all_sets(office)] + [("tight", part) for part in some]

    def test_told_papers_are_let_by_and_just_one_truth_has_papers(self):
        chance = random.Random(231)
        seen = {True: 0, False: 0}
        words = {}
        for _ in range(60):
            office = random_office(chance, ("none", "press", "bank", "post"), 3, ALWAYS)
            book = true_book(chance, office, 9)
            if not has_world(office, book):
                continue
            for note in chance.sample(SOME_NOTES, 2):
                papers = self.papers(office, book, note)
                some = papers if len(papers) < 150 else chance.sample(papers, 150)
                for answer in all_answers(office, book):
                    truth, paper = where_paper(office, book, note, answer)
                    self.due(("told", truth), answer, paper, note, book, office)
                    seen[truth] += 1
                    for other in some:
                        word, what = self.as_due(answer, other, note, book, office)
                        words[word] = words.get(word, 0) + 1
                        self.assertTrue(word != "told" or what is truth, (office, book, note, answer, other))
        self.assertGreater(min(seen.values()), 50, seen)
        for word in ("told", "step", "answer", "given", "way", "late", "spent", "leaves", "from", "to", "names",
                     "supply", "tight"):
            self.assertGreater(words.get(word, 0), 10, words)

    def test_one_place_for_all(self):
        # A place far from all others is reached by no way, and a cut bars it.
        office = (WORTHS, (("mint", "post"), ("none", "press"), ("press", "bank")))
        book = (move(name(1)),)
        truth, paper = where_paper(office, book, NOTE, ("at", "mint"))
        self.due(("told", False), ("at", "mint"), paper, NOTE, book, office)
        self.assertEqual((False, "cut"), (truth, paper[0]))
