"""The checkers of fillings and of bags that are short: points [56], [58] and [59]."""

import random

from pressnotes.fillchecker import lets_filling, lets_short
from tests.support import (
    BIG, JUNK, TOP, PlainCase, only_lists_for_tuples, only_truths_for_numbers, random_office, variants,
)
from tests.test_bags import ALWAYS, can_lie_due, supplies_due, true_book, unread_due
from tests.test_books import bag, count, move, name, read, void
from tests.test_offices import OFFICE
from tests.test_pages import name_like


def wanted_due(book):
    return {at: many for at, many in unread_due(book) if many > 0}


def filling_due(office, book, thing):
    """What any thing is as a FILLING, by the words of [58]."""
    if type(thing) is not tuple or not all(type(row) is tuple and len(row) == 3 for row in thing):
        return ("shape", -1)
    for one, other, many in thing:
        if not name_like(one) or not name_like(other) or type(many) is not int or many < 1:
            return ("shape", -1)
    keys = [row[:2] for row in thing]
    if keys != sorted(set(keys)):
        return ("shape", -1)
    want = wanted_due(book)
    for k, (one, other, many) in enumerate(thing):
        if not can_lie_due(office, book, one, other) or other not in want:
            return ("row", k)
    for k, (at, (place, notes)) in enumerate(supplies_due(book).items()):
        if sum(many for one, other, many in thing if one == at) > len(notes):
            return ("supply", k)
    for k, at in enumerate(want):
        if sum(many for one, other, many in thing if other == at) != want[at]:
            return ("bag", k)
    return ("told", True)


def can_take_due(office, book, names):
    """How many notes can lie in one of these bags, one by one."""
    return sum(len(notes) for at, (place, notes) in supplies_due(book).items()
               if any(can_lie_due(office, book, at, other) for other in names))


def short_due(office, book, thing):
    """What any thing is as BAGS that are short, by the words of [59]."""
    if type(thing) is not tuple or not all(name_like(at) for at in thing) or list(thing) != sorted(set(thing)):
        return ("shape", -1)
    want = wanted_due(book)
    for k, at in enumerate(thing):
        if at not in want:
            return ("names", k)
    if sum(want[at] for at in thing) > can_take_due(office, book, thing):
        return ("told", True)
    return ("enough", -1)


# Supplies of day 1 (two notes, at press), day 3 (three, at bank) and day 7 (two, at bank); unread ones are in the bags
# of days 2 (from press) and 5 (from bank) alone.
BOOK = (
    move(name(1)), bag(name(2), many=1), move(name(3), "press", "bank", (("a", 0, 3),)), count(name(4)),
    bag(name(5), "bank", "post", 3), bag(name(6), many=2), read(name(7), name(6), (("b", 0, 2),)),
    bag(name(8), "bank", "post", 9), void(name(9), name(8)),
)
RIGHT = ((name(1), name(2), 1), (name(3), name(5), 3))


class LetsFillingTest(PlainCase):
    def due(self, due, thing, book=BOOK, office=OFFICE):
        """The checker tells what is due; where the notes can be counted the oracle of this file does, too."""
        self.assertEqual(due, filling_due(office, book, thing))
        self.same_or_no_paper(due, lets_filling, office, book, thing)

    def test_right_ones(self):
        self.due(("told", True), RIGHT)
        self.due(("told", True), ((name(1), name(2), 1), (name(1), name(5), 1), (name(3), name(5), 2)))
        self.due(("told", True), (), ())
        self.due(("told", True), (), (move(name(1)),))
        # Bags whose notes were all read stand in none.
        self.due(("told", True), (), (move(name(1)), bag(name(2), many=2), read(name(3), name(2), (("a", 0, 2),))))

    def test_shape(self):
        for thing in (
            None, True, False, 0, 1, "", "filled", [], [RIGHT[0]], RIGHT[::-1], RIGHT + RIGHT[1:], RIGHT[:1] + RIGHT,
            list(RIGHT), (list(RIGHT[0]),), RIGHT[0], (RIGHT,), (None,), ((),), ((name(1), name(2)),),
            ((name(1), name(2), 1, 1),), ((name(1), name(2), 0),), ((name(1), name(2), -1),),
            ((name(1), name(2), True),),
            ((name(1), name(2), False),), ((name(1), name(2), None),), ((name(1), name(2), "1"),),
            ((None, name(2), 1),), ((name(1), None, 1),), ((list(name(1)), name(2), 1),), (((1, 0), name(2), 1),),
            (((True, 0, "a"), name(2), 1),), ((name(1), (2, False, "a"), 1),), ((name(1), (2, 0, "A"), 1),),
            ((name(1), name(2), 1), (name(1), name(2), 2)), ((name(1), name(5), 1), (name(1), name(2), 1)),
            ((name(3), name(2), 1), (name(1), name(5), 1)), ((name(1), name(2), 1), None), ("filled", RIGHT),
            ((1, name(1), name(2)),), ((name(1), name(2), -BIG),),
        ):
            self.due(("shape", -1), thing)

    def test_rows(self):
        for wrong in (
            (name(0), name(2), 1), (name(1), name(1), 1), (name(1), name(3), 1), (name(1), name(4), 1),
            (name(1), name(6), 1), (name(1), name(8), 1), (name(1), name(9), 1), (name(1, 1), name(2), 1),
            (name(1), name(2, 0, "b"), 1), (name(0), name(0), BIG), (name(1), name(6), BIG),
        ):
            self.due(("row", 0), (wrong,))
            more = tuple(sorted(RIGHT + (wrong,)))
            self.due(("row", more.index(wrong)), more)
        self.due(("row", 1), ((name(1), name(2), 9), (name(3), name(2), 9), (name(3), name(5), 9)))
        self.due(("row", 0), ((name(2), name(5), 1), (name(7), name(5), 1)))
        self.due(("row", 0), ((name(7), name(5), 1),))

    def test_supplies_behind_the_bag_or_elsewhere(self):
        self.due(("row", 0), ((name(3), name(2), 1),))
        book = (move(name(1), "press", "bank"), bag(name(2)), bag(name(3), "bank", "post", 4))
        self.due(("row", 0), ((name(1), name(2), 4),), book)

    def test_supplies(self):
        self.due(("supply", 0), ((name(1), name(2), 1), (name(1), name(5), 2), (name(3), name(5), 4)))
        self.due(("supply", 1), ((name(1), name(2), 1), (name(1), name(5), 1), (name(3), name(5), 4)))
        self.due(("supply", 0), ((name(1), name(2), BIG),))
        self.due(("supply", 1), ((name(3), name(5), BIG),))
        # The rows of one supply are added: neither alone takes too many.
        self.due(("supply", 0), ((name(1), name(2), 2), (name(1), name(5), 1)))

    def test_all_supplies_are_counted(self):
        # The supply of day 7 stands in no row but has a number.
        book = BOOK[:6] + (read(name(7), name(6), (("b", 0, 1),)), move(name(8), "press", "bank", (("b", 5, 7),)),
                           bag(name(9), "bank", "post", 1))
        self.due(("supply", 3), ((name(8), name(9), 3),), book)
        self.due(("supply", 2), ((name(7), name(9), 2),), book)

    def test_bags(self):
        self.due(("bag", 0), ())
        self.due(("bag", 0), ((name(3), name(5), 3),))
        self.due(("bag", 0), ((name(1), name(2), 2),))
        self.due(("bag", 1), ((name(1), name(2), 1),))
        self.due(("bag", 1), ((name(1), name(2), 1), (name(3), name(5), 2)))
        self.due(("bag", 1), ((name(1), name(2), 1), (name(1), name(5), 1), (name(3), name(5), 3)))

    def test_bags_without_unread_ones_are_not_counted(self):
        book = (
            move(name(1), runs=(("a", 0, 9),)), bag(name(2), many=1), read(name(3), name(2), (("a", 0, 1),)),
            bag(name(4), many=2), bag(name(5), many=1), read(name(6), name(5), (("a", 1, 2),)), bag(name(7), many=3),
        )
        self.due(("told", True), ((name(1), name(4), 2), (name(1), name(7), 3)), book)
        self.due(("bag", 0), ((name(1), name(7), 3),), book)
        self.due(("bag", 1), ((name(1), name(4), 2),), book)
        self.due(("row", 0), ((name(1), name(2), 1), (name(1), name(4), 2), (name(1), name(7), 3)), book)

    def test_great_numbers(self):
        book = (move(name(1), runs=(("a", 0, TOP), ("b", 0, TOP))), bag(name(2), many=TOP), bag(name(3), many=TOP))
        self.same(True, lets_filling, OFFICE, book, ((name(1), name(2), TOP), (name(1), name(3), TOP)))
        for thing, word, k in (
            (((name(1), name(2), TOP), (name(1), name(3), TOP + 1)), "supply", 0),
            (((name(1), name(2), TOP), (name(1), name(3), TOP - 1)), "bag", 1),
            (((name(1), name(2), TOP - 1), (name(1), name(3), TOP + 1)), "bag", 0),
        ):
            self.same_or_no_paper((word, k), lets_filling, OFFICE, book, thing)

    def test_any_thing(self):
        for thing in list(JUNK) + list(variants(RIGHT)):
            self.due(filling_due(OFFICE, BOOK, thing), thing)
        for thing in list(only_lists_for_tuples(RIGHT)) + list(only_truths_for_numbers(RIGHT)):
            self.due(("shape", -1), thing)

    def test_random_rows(self):
        chance = random.Random(201)
        words = {}
        for _ in range(150):
            office = random_office(chance, most=4, always=ALWAYS)
            book = true_book(chance, office, 12)
            want = wanted_due(book)
            stock = list(supplies_due(book))
            rows = [(one, other) for one in stock for other in want if can_lie_due(office, book, one, other)]
            for _ in range(6):
                some = {pair: chance.randint(1, 3) for pair in rows if chance.random() < 0.5}
                if chance.random() < 0.2:
                    some[chance.choice(book)[0], chance.choice(book)[0]] = 1
                thing = tuple(pair + (some[pair],) for pair in sorted(some))
                due = filling_due(office, book, thing)
                words[due[0]] = words.get(due[0], 0) + 1
                self.same_or_no_paper(due, lets_filling, office, book, thing)
        self.assertGreater(min(words.get(word, 0) for word in ("told", "row", "supply", "bag")), 10, words)


class LetsShortTest(PlainCase):
    # Five notes at press from day 1 on; the bags of days 2 and 4 want six together; that of day 6 from bank wants one.
    BOOK = (
        move(name(1)), bag(name(2), many=3), count(name(3)), bag(name(4), many=3), bag(name(5), many=1),
        bag(name(6), "bank", "post", 1), read(name(7), name(5), (("b", 0, 1),)), bag(name(8)), void(name(9), name(8)),
    )

    def due(self, due, thing, book=BOOK, office=OFFICE):
        self.assertEqual(due, short_due(office, book, thing))
        self.same_or_no_paper(due, lets_short, office, book, thing)

    def test_right_ones(self):
        self.due(("told", True), (name(2), name(4)))
        self.due(("told", True), (name(2), name(4), name(6)))
        self.due(("told", True), (name(1),), (bag(name(1)),))

    def test_shape(self):
        for thing in (
            None, True, 0, 1, "", [], [name(2), name(4)], (name(4), name(2)), (name(2), name(2)), name(2), (None,),
            (name(2), None), (list(name(2)), name(4)), (name(2), name(4), name(4)), ((2, 0),), ((True, 0, "a"),),
            ((2, False, "a"), name(4)), ((2, 0, "A"), name(4)), ((name(2), name(4)),), ("short", (name(2),)), (2,),
            ((2, 0, "a", 0),), ((-1, 0, "a"),),
        ):
            self.due(("shape", -1), thing)

    def test_names(self):
        for wrong in (name(0), name(1), name(3), name(5), name(7), name(8), name(9), name(2, 1), name(2, 0, "b")):
            thing = tuple(sorted((name(2), name(4), wrong)))
            self.due(("names", thing.index(wrong)), thing)
            self.due(("names", 0), (wrong,))
        self.due(("names", 1), (name(2), name(3), name(5)))
        self.due(("names", 0), (name(0), name(2), name(4), name(5)))

    def test_enough(self):
        for thing in ((), (name(2),), (name(4),), (name(6),), (name(2), name(6)), (name(4), name(6))):
            self.due(("enough", -1), thing)
        # As many as they can take are not more.
        book = (move(name(1)), bag(name(2), many=3), bag(name(4), many=2))
        self.due(("enough", -1), (name(2), name(4)), book)

    def test_each_supply_once(self):
        book = (move(name(1), runs=(("a", 0, 3),)), bag(name(2), many=2), bag(name(4), many=2))
        self.due(("told", True), (name(2), name(4)), book)

    def test_supplies_behind_the_bags_are_not_theirs(self):
        book = (move(name(1), runs=(("a", 0, 1),)), bag(name(2), many=2), move(name(3), runs=(("b", 0, 9),)),
                bag(name(4), many=2))
        self.due(("told", True), (name(2),), book)
        self.due(("enough", -1), (name(2), name(4)), book)

    def test_any_thing(self):
        for thing in list(JUNK) + list(variants((name(2), name(4)))):
            self.due(short_due(OFFICE, self.BOOK, thing), thing)
        for thing in list(only_lists_for_tuples((name(2), name(4)))) + list(only_truths_for_numbers((name(2),))):
            self.due(("shape", -1), thing)

    def test_random_ones(self):
        chance = random.Random(202)
        words = {}
        for _ in range(200):
            office = random_office(chance, most=4, always=ALWAYS)
            book = true_book(chance, office, 12)
            names = [at for at in wanted_due(book)]
            for _ in range(4):
                some = [at for at in names if chance.random() < 0.6]
                some += [chance.choice(book)[0]] if chance.random() < 0.2 else []
                thing = tuple(sorted(set(some)))
                due = short_due(office, book, thing)
                words[due[0]] = words.get(due[0], 0) + 1
                self.same_or_no_paper(due, lets_short, office, book, thing)
        self.assertGreater(min(words.get(word, 0) for word in ("told", "names", "enough")), 20, words)
