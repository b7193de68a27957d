"""The fewest moves into bags: points [57] and [68]."""

import random

from pressnotes.errors import NoWorld
from pressnotes.fillchecker import lets_filling
from pressnotes.prices import fewest
from tests import test_filling
from tests.support import TOP, PlainCase, distances, random_office
from tests.test_bags import ALWAYS, bags_due, can_lie_due, supplies_due, true_book
from tests.test_books import bag, move, name, read, void
from tests.test_fillchecker import BOOK, filling_due, wanted_due
from tests.test_filling import REFUSED, all_fillings, has_world, random_refused
from tests.test_offices import OFFICE, WORTHS
from tests.test_pages import name_like


def length_due(office, book, supply, at):
    return distances(office)[supplies_due(book)[supply][0], bags_due(book)[at][1]]


def cost_due(office, book, rows):
    return sum(length_due(office, book, one, other) * many for one, other, many in rows)


def priced_like(thing):
    if type(thing) is not tuple or not all(type(pair) is tuple and len(pair) == 2 for pair in thing):
        return False
    return all(name_like(at) and type(price) is int for at, price in thing)


def prices_due(office, book, thing):
    """What any thing is as PRICES, by the words of [68]."""
    if type(thing) is not tuple or len(thing) != 2 or not priced_like(thing[0]) or not priced_like(thing[1]):
        return ("shape", -1)
    of_bags, of_supplies = thing
    want, stock = wanted_due(book), supplies_due(book)
    for k in range(max(len(of_bags), len(want))):
        if k >= len(of_bags) or k >= len(want) or of_bags[k][0] != list(want)[k]:
            return ("bags", k)
    for k in range(max(len(of_supplies), len(stock))):
        if k >= len(of_supplies) or k >= len(stock) or of_supplies[k][0] != list(stock)[k] or of_supplies[k][1] < 0:
            return ("supplies", k)
    for k, (one, price) in enumerate(of_supplies):
        for other, high in of_bags:
            if can_lie_due(office, book, one, other) and high - price > length_due(office, book, one, other):
                return ("price", k)
    bound = sum(price * want[at] for at, price in of_bags)
    return ("told", bound - sum(price * len(stock[at][1]) for at, price in of_supplies))


class FewestCase(PlainCase):
    def told_fewest(self, cost, book, office=OFFICE):
        """So much is told, with a FILLING that is let by."""
        told = self.ask(fewest, office, book)
        self.assertIs(tuple, type(told))
        self.assertEqual(3, len(told))
        self.assertIs(int, type(told[0]))
        self.assertEqual(cost, told[0], (office, book))
        self.same(True, lets_filling, office, book, told[1])
        return told

    def is_told(self, cost, book, office=OFFICE):
        """The same, of books whose notes can be counted: the FILLING costs so much, and the PRICES' BOUND is it."""
        told = self.told_fewest(cost, book, office)
        self.assertEqual(("told", True), filling_due(office, book, told[1]))
        self.assertEqual(cost, cost_due(office, book, told[1]))
        self.assertEqual(("told", cost), prices_due(office, book, told[2]), told)
        return told

    def is_refused(self, word, book, office=OFFICE):
        self.refused(NoWorld, {"word": word}, fewest, office, book)


LINE = (WORTHS, (("a", "b"), ("b", "c"), ("c", "d"), ("none", "a"), ("none", "b"), ("none", "c")))


class FewestTest(FewestCase):
    def test_nothing_to_fill(self):
        self.same((0, (), ((), ())), fewest, OFFICE, ())
        self.same((0, (), ((), ((name(1), 0),))), fewest, OFFICE, (move(name(1)),))
        book = (move(name(1)), bag(name(2), many=2), read(name(3), name(2), (("a", 0, 2),)))
        self.same((0, (), ((), ((name(1), 0), (name(3), 0)))), fewest, OFFICE, book)

    def test_ordinary_ones(self):
        cost, rows, prices = self.is_told(0, BOOK)
        self.assertEqual(((name(1), name(2), 1), (name(3), name(5), 3)), rows)
        self.is_told(4, (move(name(1)), bag(name(2), "bank", "post", 4)))
        self.is_told(8, (move(name(1)), bag(name(2), "post", "bank", 4)))

    def test_the_near_ones_go_first(self):
        book = (move(name(1), "none", "a", (("a", 0, 5),)), move(name(2), "none", "b", (("b", 0, 3),)),
                bag(name(3), "c", "d", 4))
        cost, rows, prices = self.is_told(3 * 1 + 1 * 2, book, LINE)
        self.assertEqual(((name(1), name(3), 1), (name(2), name(3), 3)), rows)

    def test_the_near_ones_are_needed_elsewhere(self):
        # What lies nearest to the bag of day 3 is all that the bag of day 4 can have.
        office = (WORTHS, (("a", "b"), ("b", "c"), ("b", "e"), ("c", "d"), ("none", "a"), ("none", "b"), ("none", "c")))
        book = (move(name(1), "none", "a", (("a", 0, 5),)), move(name(2), "none", "c", (("b", 0, 3),)),
                bag(name(3), "c", "d", 3), bag(name(4), "c", "d", 3), bag(name(5), "a", "b", 2))
        self.is_told(0 + 3 * 2 + 0, book, office)
        book = book[:-1] + (bag(name(5), "b", "e", 2),)
        self.is_told(0 + 3 * 2 + 2, book, office)
        self.is_refused("short", book[:-1] + (bag(name(5), "b", "e", 3),), office)

    def test_given_notes_are_changed_about(self):
        # Filled by names, the bag of day 4 takes the nearest, those of day 2, which the bag of day 5 needs more.
        office = (WORTHS, (("a", "b"), ("b", "c"), ("c", "d"), ("none", "a"), ("none", "b"), ("none", "x"), ("x", "b")))
        book = (move(name(1), "none", "x", (("a", 0, 3),)), move(name(2), "none", "b", (("b", 0, 3),)),
                bag(name(4), "b", "c", 3), bag(name(5), "c", "d", 3))
        self.is_told(3 * 1 + 3 * 1, book, office)

    def test_handed_on_through_several_bags(self):
        forked = test_filling.FilledTest().forked
        fork = test_filling.FilledTest.FORK
        # Bags of d and e cost one a note, that of p none.
        for sizes, wants in (((2, 2, 2), (2, 2, 2)), ((9, 7, 8), (7, 8, 9)), ((5, 9, 3), (6, 4, 5))):
            self.told_fewest(wants[0] + wants[1], forked(sizes, wants), fork)

    def test_prices_may_be_above_the_lengths(self):
        # All notes are needed: a note more at b would save a way from a.
        book = (move(name(1), "none", "a", (("a", 0, 3),)), move(name(2), "none", "b", (("b", 0, 2),)),
                bag(name(3), "b", "c", 3), bag(name(4), "c", "d", 2))
        self.is_told(2 * 0 + 1 * 1 + 2 * 2, book, LINE)

    def test_refusals_in_their_order(self):
        for word, book in REFUSED:
            self.is_refused(word, book)

    def test_void_and_waiting_pages(self):
        book = (move(name(1)), bag(name(2), many=2), bag(name(3), many=9), void(name(4), name(3)),
                read(name(5), name(3), (("a", 0, 2),)))
        self.is_told(0, book)

    def test_great_numbers(self):
        book = (
            move(name(1), runs=(("a", 0, TOP),)), bag(name(2), many=TOP // 2), bag(name(3), "bank", "post", TOP // 2),
            move(name(4), "press", "bank", (("b", 0, TOP),)), bag(name(5), "post", "bank", TOP - 1),
            bag(name(6), "bank", "post", 1),
        )
        told = self.told_fewest(TOP // 2 + TOP - 1, book)
        of_bags, of_supplies = told[2]
        self.assertEqual([name(2), name(3), name(5), name(6)], [at for at, price in of_bags])
        self.assertEqual([name(1), name(4)], [at for at, price in of_supplies])
        wants = (TOP // 2, TOP // 2, TOP - 1, 1)
        bound = sum(many * price for many, (at, price) in zip(wants, of_bags))
        self.assertEqual(told[0], bound - TOP * sum(price for at, price in of_supplies))

    def test_great_numbers_of_all_sizes(self):
        # Unlike sizes of all supplies and bags, so that notes are handed on again and again.
        chance = random.Random(281)
        places = "abcdefgh"
        for _ in range(12):
            roads = {("none", place) for place in places} | set(zip(places, places[1:]))
            roads |= {tuple(chance.sample(places, 2)) for _ in range(8)}
            office = (WORTHS, tuple(sorted(roads)))
            book = []
            total = 0
            for at in range(30):
                size = chance.choice((1, 3, 1000, 10 ** 6, 3 * 10 ** 7)) + chance.randint(0, 99)
                book.append(move(name(at), "none", chance.choice(places), (("a", total, total + size),)))
                total += size + 1
            bag_roads = [road for road in office[1] if road[0] != "none"]
            wants = [total // 9 - chance.randint(0, total // 50) for _ in range(8)]
            book = tuple(book) + tuple(bag(name(40, at), *chance.choice(bag_roads), wants[at]) for at in range(8))
            try:
                cost, rows, (of_bags, of_supplies) = self.ask(fewest, office, book)
            except NoWorld:
                continue
            self.same(True, lets_filling, office, book, rows)
            sizes = {page[0]: page[1][3][0][2] - page[1][3][0][1] for page in book[:30]}
            deeds = dict(book)
            far = distances(office)

            def length(one, other):
                return far[deeds[one][2], deeds[other][1]]

            self.assertEqual(cost, sum(length(one, other) * many for one, other, many in rows))
            bound = sum(price * deeds[at][3] for at, price in of_bags)
            self.assertEqual(cost, bound - sum(price * sizes[at] for at, price in of_supplies))
            self.assertTrue(all(price >= 0 for at, price in of_supplies))
            for at, price in of_bags:
                for other, low in of_supplies:
                    far_off = length(other, at)
                    self.assertTrue(far_off is None or price - low <= far_off)


class RandomTest(FewestCase):
    def test_against_all_fillings(self):
        chance = random.Random(282)
        seen = {"short": 0, "ways": 0, "costs": 0, "prices": 0}
        for _ in range(400):
            office = random_office(chance, most=4, always=ALWAYS)
            book = true_book(chance, office, 12)
            fillings = all_fillings(office, book)
            if not wanted_due(book) or fillings is None:
                continue
            if not fillings:
                self.is_refused("short", book, office)
                seen["short"] += 1
                continue
            costs = {cost_due(office, book, rows) for rows in fillings}
            cost, rows, prices = self.is_told(min(costs), book, office)
            self.assertIn(rows, fillings)
            seen["ways"] += len(costs) > 1
            seen["costs"] += cost > 0
            seen["prices"] += any(price > 0 for at, price in prices[1])
        self.assertGreater(min(seen.values()), 5, seen)

    def test_few_notes_and_many_bags(self):
        chance = random.Random(283)
        seen = {"ways": 0, "costs": 0, "prices": 0, "many": 0}
        for _ in range(200):
            roads = [("none", place) for place in "pqr"]
            roads += [(one, other) for one in "pqrd" for other in "pqrdex" if one != other and chance.random() < 0.35]
            office = (WORTHS, tuple(sorted(set(roads))))
            bag_roads = [road for road in roads if road[0] != "none"]
            if not bag_roads:
                continue
            book = [move(name(at), "none", chance.choice("pqr"), (("a", 3 * at, 3 * at + chance.randint(1, 3)),))
                    for at in range(3)]
            book += [bag(name(9, at), *chance.choice(bag_roads), chance.randint(1, 2)) for at in range(3)]
            book = tuple(book)
            fillings = all_fillings(office, book, 20000)
            if not fillings:
                self.assertTrue(fillings is None or not has_world(office, book))
                continue
            costs = {cost_due(office, book, rows) for rows in fillings}
            cost, rows, prices = self.is_told(min(costs), book, office)
            seen["ways"] += len(costs) > 1
            seen["costs"] += cost > 0
            seen["prices"] += any(price > 0 for at, price in prices[1])
            seen["many"] += len(rows) > 3
        self.assertGreater(min(seen.values()), 20, seen)

    def test_refusals_of_random_books(self):
        words = {"false": 0, "over": 0}
        for word, office, book in random_refused(random.Random(284), 400):
            words[word] += 1
            self.is_refused(word, book, office)
        self.assertGreater(min(words.values()), 5, words)
