"""Where a missing note can be: points [57], [61] and [63], papers as [62] tells them."""

import random

from pressnotes.errors import NoWorld
from pressnotes.whereabouts import can_be, where_paper
from pressnotes.wherechecker import lets_where
from tests.support import TOP, PlainCase, random_office
from tests.test_bags import ALWAYS, SOME_NOTES, all_answers, bags_due, true_book, unread_due
from tests.test_books import bag, move, name, read, void
from tests.test_falsehoods import ends_of_walks, is_false_due
from tests.test_filling import REFUSED, choices_due, has_world, random_refused, ways_to_lie
from tests.test_offices import OFFICE, WORTHS
from tests.test_steps import steps_due
from tests.test_wherechecker import where_due

LINE = (WORTHS, (("bank", "post"), ("none", "press"), ("press", "bank"), ("press", "mint")))


def answers_due(office, book, note):
    """The answers that some world has, by going through all worlds."""
    if not steps_due(book, note):
        return [("at", "none")]
    choices = choices_due(office, book)
    want = unread_due(book)
    others = ways_to_lie(book, choices, [other for other in choices if other != note])
    found = []
    for choice in choices[note]:
        rest = tuple(many - (at == choice) for at, many in want)
        if rest in others and choice is not None:
            found.append(("bag", choice))
        elif rest in others:
            found += [("at", place) for place in sorted(ends_of_walks(office, book, note))]
    return found


class WhereCase(PlainCase):
    def answers(self, due, book, note, office=OFFICE):
        """Just these answers are told, and each other one is shown not to be, too."""
        self.same(due, can_be, office, book, note)
        words = {}
        for answer in all_answers(office, book):
            told = self.ask(where_paper, office, book, note, answer)
            self.assertIs(tuple, type(told))
            truth, paper = told
            self.assertIs(answer in due, truth, (book, note, answer))
            self.assertEqual(("told", truth), where_due(office, book, note, answer, paper), (book, note, answer))
            self.same(truth, lets_where, office, book, note, answer, paper)
            words[answer] = paper[0]
        return words

    def is_refused(self, word, book, office=OFFICE, note=("a", 3)):
        self.refused(NoWorld, {"word": word}, can_be, office, book, note)
        for answer in [("at", "none"), ("at", "bank")] + [("bag", at) for at in bags_due(book)]:
            self.refused(NoWorld, {"word": word}, where_paper, office, book, note, answer)


class CanBeTest(WhereCase):
    def test_a_note_without_steps(self):
        words = self.answers([("at", "none")], (), ("a", 3))
        self.assertEqual({"unmade"}, set(words.values()))
        book = (move(name(1)), bag(name(2), many=2), bag(name(3)), void(name(4), name(3)))
        for note in (("a", 5), ("b", 0), ("c", 7), ("a", TOP - 1)):
            words = self.answers([("at", "none")], book, note)
            self.assertEqual({"unmade"}, set(words.values()))

    def test_without_bags(self):
        words = self.answers([("at", "bank"), ("at", "post"), ("at", "press")], (move(name(1)),), ("a", 3))
        self.assertEqual("cut", words["at", "none"])
        self.answers([("at", "bank"), ("at", "post")], (move(name(1)), move(name(2), "press", "bank")), ("a", 3))
        words = self.answers([("at", "post")], (move(name(1)), move(name(2), "bank", "post")), ("a", 3), LINE)
        self.assertEqual(
            {("at", "post"): "free", ("at", "bank"): "cut", ("at", "mint"): "cut", ("at", "none"): "cut",
             ("at", "press"): "cut"}, words)

    def test_bags_by_names_then_places(self):
        book = (move(name(1)), bag(name(2), many=2), bag(name(3, 5), many=1), bag(name(10), many=1))
        due = [("bag", name(2)), ("bag", name(3, 5)), ("bag", name(10))]
        due += [("at", "bank"), ("at", "post"), ("at", "press")]
        self.answers(due, book, ("a", 3))

    def test_late(self):
        book = (move(name(1)), bag(name(2), many=2), move(name(3), "press", "bank", (("a", 3, 4),)))
        words = self.answers([("at", "bank"), ("at", "post")], book, ("a", 3))
        self.assertEqual("late", words["bag", name(2)])
        # By its own name a read is behind the bag of its own, and a bag between them is late, too.
        book = (move(name(1)), bag(name(2), many=3), bag(name(3), many=1), read(name(4), name(2), (("a", 3, 4),)))
        words = self.answers([("at", "bank"), ("at", "post")], book, ("a", 3))
        self.assertEqual(("late", "late"), (words["bag", name(2)], words["bag", name(3)]))

    def test_spent(self):
        book = (move(name(1)), bag(name(2), many=1), read(name(3), name(2), (("a", 4, 5),)), bag(name(5), many=1))
        words = self.answers([("bag", name(5)), ("at", "bank"), ("at", "post"), ("at", "press")], book, ("a", 3))
        self.assertEqual("spent", words["bag", name(2)])

    def test_cut(self):
        book = (move(name(1)), move(name(2), "press", "mint", (("a", 0, 1),)), bag(name(3), "bank", "post", 1))
        words = self.answers([("at", "mint")], book, ("a", 0), LINE)
        self.assertEqual("cut", words["bag", name(3)])
        due = [("bag", name(3)), ("at", "bank"), ("at", "mint"), ("at", "post"), ("at", "press")]
        self.answers(due, book, ("a", 1), LINE)

    def test_all_notes_are_in_the_bag(self):
        book = (move(name(1)), bag(name(2), many=5))
        words = self.answers([("bag", name(2))], book, ("a", 3))
        self.assertEqual("tight", words["at", "press"])
        book = (move(name(1)), bag(name(2), many=3), bag(name(3), many=2))
        self.answers([("bag", name(2)), ("bag", name(3))], book, ("a", 3))

    def test_tight_bags_bar_another_bag(self):
        # The bag of day 2 needs all five; the later bag has notes of its own.
        book = (move(name(1)), bag(name(2), many=5), move(name(3), runs=(("b", 0, 3),)), bag(name(4), many=2))
        words = self.answers([("bag", name(2))], book, ("a", 3))
        self.assertEqual("tight", words["bag", name(4)])
        self.answers([("bag", name(4)), ("at", "bank"), ("at", "post"), ("at", "press")], book, ("b", 0))

    def test_tight_where_another_supply_is_needed_elsewhere(self):
        # Of the two at bank one goes to the bag from bank; those at press fill the bag from press all alone.
        office = (WORTHS, (("bank", "post"), ("none", "bank"), ("none", "press"), ("press", "bank")))
        book = (
            move(name(1), "none", "press", (("a", 0, 2),)), move(name(2), "none", "bank", (("b", 0, 2),)),
            bag(name(3), "press", "bank", 2), bag(name(4), "bank", "post", 1),
        )
        words = self.answers([("bag", name(3))], book, ("a", 0), office)
        self.assertEqual("tight", words["bag", name(4)])
        self.answers([("bag", name(4)), ("at", "bank"), ("at", "post")], book, ("b", 0), office)

    def test_refusals_in_their_order(self):
        for word, book in REFUSED:
            self.is_refused(word, book)
            # A note without steps is refused likewise.
            self.is_refused(word, book, note=("c", 0))

    def test_great_numbers(self):
        book = (move(name(1), runs=(("a", 0, TOP),)), bag(name(2), many=TOP - 1), bag(name(3), "bank", "post", 1))
        self.same([("bag", name(2)), ("bag", name(3))], can_be, OFFICE, book, ("a", 77))
        truth, paper = self.ask(where_paper, OFFICE, book, ("a", 77), ("at", "bank"))
        self.assertEqual((False, ("tight", (name(2), name(3)))), (truth, paper))
        truth, paper = self.ask(where_paper, OFFICE, book, ("a", 77), ("bag", name(3)))
        self.assertEqual((True, ("in", ((name(1), name(2), TOP - 1), (name(1), name(3), 1)))), (truth, paper))

    def test_forty_pages_of_twenty_four_runs(self):
        book = tuple(
            move(name(at), "none", "press", tuple(("a", 2000 * part + 40 * at, 2000 * part + 40 * at + 30)
                                                  for part in range(24))) for at in range(32))
        book += tuple(bag(name(40, at), "press", "bank", 2880) for at in range(8))
        due = [("bag", name(40, at)) for at in range(8)]
        self.same(due, can_be, OFFICE, book, ("a", 5))

    def test_the_list_is_the_askers_own(self):
        book = (move(name(1)), bag(name(2), many=5))
        can_be(OFFICE, book, ("a", 3)).append("more")
        self.same([("bag", name(2))], can_be, OFFICE, book, ("a", 3))


class RandomTest(WhereCase):
    def test_against_all_worlds(self):
        chance = random.Random(221)
        words = {}
        for _ in range(260):
            office = random_office(chance, most=4, always=ALWAYS)
            book = true_book(chance, office, 12)
            if not has_world(office, book):
                self.is_refused("short", book, office)
                words["short"] = words.get("short", 0) + 1
                continue
            for note in chance.sample(SOME_NOTES, 3):
                told = self.answers(answers_due(office, book, note), book, note, office)
                for word in told.values():
                    words[word] = words.get(word, 0) + 1
        for word in ("short", "unmade", "in", "free", "late", "spent", "cut", "tight"):
            self.assertGreater(words.get(word, 0), 10, words)

    def test_few_notes_and_many_bags(self):
        # So few notes that the bags are often tight, by supplies of several days.
        chance = random.Random(222)
        words = {}
        for _ in range(600):
            office = random_office(chance, most=3, always=ALWAYS)
            runs = [(("a", at, at + chance.randint(1, 2)),) for at in (0, 2, 4)]
            names = sorted(chance.sample([name(day) for day in range(12)], 6))
            kinds = ["move", "move", "move", "bag", "bag", "bag"]
            chance.shuffle(kinds)
            book = []
            for at, kind in zip(names, kinds):
                if kind == "move":
                    road = chance.choice(office[1])
                    book.append(move(at, *road, runs.pop()))
                else:
                    road = chance.choice([road for road in office[1] if road[0] != "none"])
                    book.append(bag(at, *road, chance.randint(1, 2)))
            book = tuple(book)
            if any(is_false_due(office, book, note) for note in SOME_NOTES):
                continue
            if not has_world(office, book):
                self.is_refused("short", book, office)
                continue
            for note in (("a", 0), ("a", 2), ("a", 4)):
                told = self.answers(answers_due(office, book, note), book, note, office)
                for (kind, what), word in told.items():
                    words[kind, word] = words.get((kind, word), 0) + 1
        for pair in (("bag", "tight"), ("at", "tight"), ("bag", "in"), ("at", "free")):
            self.assertGreater(words.get(pair, 0), 5, words)

    def test_refusals_of_random_books(self):
        words = {"false": 0, "over": 0}
        for word, office, book in random_refused(random.Random(223), 300):
            words[word] += 1
            self.is_refused(word, book, office)
        self.assertGreater(min(words.values()), 3, words)
