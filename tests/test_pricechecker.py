"""The checkers of prices and of what fillings cost: point [68]."""

import random

from pressnotes.errors import NoWorld
from pressnotes.pricechecker import lets_cost, lets_prices
from pressnotes.prices import fewest
from tests.support import (
    BIG, JUNK, TOP, PlainCase, only_lists_for_tuples, only_truths_for_numbers, random_office, variants,
)
from tests.test_bags import ALWAYS, supplies_due, true_book
from tests.test_books import bag, move, name
from tests.test_fillchecker import BOOK, RIGHT, filling_due, wanted_due
from tests.test_filling import all_fillings
from tests.test_offices import OFFICE
from tests.test_prices import cost_due, prices_due

# BOOK has unread ones in the bags of days 2 (from press, one) and 5 (from bank, three), supplies of days 1 (two notes,
# at press), 3 (three, at bank) and 7 (two, at bank, too late).
OF_BAGS = ((name(2), 0), (name(5), 1))
OF_SUPPLIES = ((name(1), 0), (name(3), 1), (name(7), 0))


class PricesCase(PlainCase):
    def due(self, due, thing, book=BOOK, office=OFFICE):
        """The checker tells what is due; the oracle does, too."""
        self.assertEqual(due, prices_due(office, book, thing), thing)
        self.same_or_no_paper(due, lets_prices, office, book, thing)


class LetsPricesTest(PricesCase):
    def test_right_ones(self):
        self.due(("told", 0), (OF_BAGS, OF_SUPPLIES))
        self.due(("told", 0), (((name(2), 0), (name(5), 0)), ((name(1), 0), (name(3), 0), (name(7), 0))))
        self.due(("told", -7), (((name(2), 0), (name(5), 0)), ((name(1), 1), (name(3), 1), (name(7), 1))))
        self.due(("told", -1 - 3 * BIG), (((name(2), -1), (name(5), -BIG)), ((name(1), 0), (name(3), 0), (name(7), 0))))
        self.due(("told", 0), ((), ()), ())
        self.due(("told", -15), ((), ((name(1), 3),)), (move(name(1)),))

    def test_a_bound_above_0(self):
        book = (move(name(1)), bag(name(2), "post", "bank", 4))
        self.due(("told", 8), (((name(2), 2),), ((name(1), 0),)), book)
        self.due(("told", 7), (((name(2), 3),), ((name(1), 1),)), book)
        self.due(("price", 0), (((name(2), 3),), ((name(1), 0),)), book)

    def test_books_without_a_filling(self):
        book = (move(name(1)), bag(name(2), many=9), bag(name(3), many=9))
        self.due(("told", 0), (((name(2), 0), (name(3), 0)), ((name(1), 0),)), book)
        # Nothing can lie in the first bag, so no price is too high for it.
        book = (bag(name(1), many=9), move(name(2)))
        self.due(("told", 9 * BIG), (((name(1), BIG),), ((name(2), 0),)), book)

    def test_shape(self):
        for thing in (
            None, True, 0, "", (), [], OF_BAGS, (OF_BAGS,), [OF_BAGS, OF_SUPPLIES], (OF_BAGS, OF_SUPPLIES, ()),
            (list(OF_BAGS), OF_SUPPLIES), (OF_BAGS, list(OF_SUPPLIES)), (OF_BAGS, None), (None, OF_SUPPLIES),
            (((name(2), True), (name(5), 1)), OF_SUPPLIES), (OF_BAGS, ((name(1), False),) + OF_SUPPLIES[1:]),
            (((name(2),), (name(5), 1)), OF_SUPPLIES), (((name(2), 0, 0), (name(5), 1)), OF_SUPPLIES),
            (([name(2), 0], (name(5), 1)), OF_SUPPLIES), (((2, 0), (name(5), 1)), OF_SUPPLIES),
            (OF_BAGS, ((None, 0),)), (OF_BAGS, (((1, False, "a"), 0),)), (OF_BAGS, ((name(1), "0"),)),
            (OF_BAGS, ((name(1), None),)), ((), ((name(1), 0), 0)), (name(2), name(1)), (((name(0), 0),), None),
        ):
            self.due(("shape", -1), thing)

    def test_bags(self):
        for k, of_bags in (
            (0, ()), (0, OF_BAGS[1:]), (0, OF_BAGS[::-1]), (1, OF_BAGS[:1]), (1, OF_BAGS[:1] * 2),
            (2, OF_BAGS + OF_BAGS),
            (2, OF_BAGS + ((name(6), 0),)), (1, (OF_BAGS[0], (name(6), 0))), (0, ((name(6), 0),) + OF_BAGS),
            (1, (OF_BAGS[0], (name(8), 0), OF_BAGS[1])), (2, OF_BAGS + ((name(9), BIG), (name(9), BIG))),
            (1, (OF_BAGS[0], (name(5, 1), 1))),
        ):
            # Ahead of the supplies' names and prices.
            for of_supplies in (OF_SUPPLIES, (), ((name(1), -1),)):
                self.due(("bags", k), (of_bags, of_supplies))

    def test_supplies(self):
        one, two, three = OF_SUPPLIES
        for k, of_supplies in (
            (0, ()), (1, OF_SUPPLIES[:1]), (2, OF_SUPPLIES[:2]), (0, OF_SUPPLIES[1:]), (0, OF_SUPPLIES[::-1]),
            (3, OF_SUPPLIES + OF_SUPPLIES), (3, OF_SUPPLIES + ((name(8), -1),)), (1, (one, three)),
            (1, (one, one, two)),
            (0, ((name(1), -1), two, three)), (1, (one, (name(3), -1), three)), (2, (one, two, (name(7), -BIG))),
            (1, (one, (name(3), -1))), (1, (one, (name(4), 0), (name(7), -1))),
            (0, ((name(1), -1), (name(4), 0), three)),
            (1, (one, (name(3), -1), (name(8), 0))),
        ):
            self.due(("supplies", k), (OF_BAGS, of_supplies))
            # Ahead of the prices.
            self.due(("supplies", k), (((name(2), BIG), (name(5), BIG)), of_supplies))

    def test_prices(self):
        one, two, three = OF_SUPPLIES
        self.due(("price", 0), (((name(2), 1), (name(5), 1)), OF_SUPPLIES))
        self.due(("price", 0), (((name(2), 0), (name(5), 2)), (one, (name(3), 2), three)))
        self.due(("price", 1), (OF_BAGS, (one, (name(3), 0), three)))
        self.due(("price", 1), (((name(2), 1), (name(5), 2)), ((name(1), 1), (name(3), 1), three)))
        self.due(("price", 0), (((name(2), BIG), (name(5), BIG)), OF_SUPPLIES))
        # What is too late for all bags needs no price.
        self.due(("told", 0), (((name(2), 0), (name(5), 1)), (one, two, (name(7), 0))))

    def test_any_thing(self):
        right = (OF_BAGS, OF_SUPPLIES)
        for thing in list(JUNK) + list(variants(right)):
            self.due(prices_due(OFFICE, BOOK, thing), thing)
        for thing in list(only_lists_for_tuples(right)) + list(only_truths_for_numbers(right)):
            self.due(("shape", -1), thing)

    def test_great_numbers(self):
        book = (move(name(1), runs=(("a", 0, TOP),)), bag(name(2), "bank", "post", TOP))
        self.same(TOP, lets_prices, OFFICE, book, (((name(2), 1),), ((name(1), 0),)))
        self.same(TOP, lets_prices, OFFICE, book, (((name(2), 1 + BIG),), ((name(1), BIG),)))
        self.same(TOP, lets_cost, OFFICE, book, ((name(1), name(2), TOP),))


class LetsCostTest(PlainCase):
    def due(self, due, thing, book=BOOK, office=OFFICE):
        told = filling_due(office, book, thing)
        if told[0] == "told":
            told = ("told", cost_due(office, book, thing))
        self.assertEqual(due, told, thing)
        self.same_or_no_paper(due, lets_cost, office, book, thing)

    def test_right_ones(self):
        self.due(("told", 0), RIGHT)
        self.due(("told", 1), ((name(1), name(2), 1), (name(1), name(5), 1), (name(3), name(5), 2)))
        self.due(("told", 0), (), ())
        self.due(("told", 8), ((name(1), name(2), 4),), (move(name(1)), bag(name(2), "post", "bank", 4)))

    def test_refused_as_fillings_are(self):
        for due, thing in (
            (("shape", -1), None), (("shape", -1), RIGHT[::-1]), (("shape", -1), ((name(1), name(2), True),)),
            (("row", 0), ((name(0), name(2), 1),)), (("row", 1), ((name(1), name(2), 1), (name(1), name(6), 1))),
            (("supply", 0), ((name(1), name(2), 3),)), (("bag", 0), ()), (("bag", 1), RIGHT[:1]),
        ):
            self.due(due, thing)
        for thing in list(JUNK) + list(variants(RIGHT)):
            told = filling_due(OFFICE, BOOK, thing)
            self.due(("told", cost_due(OFFICE, BOOK, thing)) if told[0] == "told" else told, thing)


class RandomTest(PricesCase):
    def test_what_fewest_tells(self):
        chance = random.Random(291)
        seen = {"told": 0, "dear": 0}
        for _ in range(300):
            office = random_office(chance, most=4, always=ALWAYS)
            book = true_book(chance, office, 12)
            try:
                cost, rows, prices = fewest(office, book)
            except NoWorld:
                continue
            self.due(("told", cost), prices, book, office)
            self.same(cost, lets_cost, office, book, rows)
            seen["told"] += 1
            seen["dear"] += cost > 0
        self.assertGreater(min(seen.values()), 15, seen)

    def test_no_prices_bound_more_than_a_filling_costs(self):
        chance = random.Random(292)
        words = {}
        for _ in range(200):
            office = random_office(chance, most=4, always=ALWAYS)
            book = true_book(chance, office, 12)
            fillings = all_fillings(office, book)
            if not fillings or not wanted_due(book):
                continue
            least = min(cost_due(office, book, rows) for rows in fillings)
            rows = chance.choice(fillings)
            self.same(cost_due(office, book, rows), lets_cost, office, book, rows)
            for _ in range(12):
                thing = (tuple((at, chance.randint(-1, 3)) for at in wanted_due(book)),
                         tuple((at, chance.choice((-1, 0, 0, 0, 1, 1, 2, 3, 3))) for at in supplies_due(book)))
                word, what = prices_due(office, book, thing)
                words[word] = words.get(word, 0) + 1
                self.due((word, what), thing, book, office)
                self.assertTrue(word != "told" or what <= least)
        self.assertGreater(min(words.get(word, 0) for word in ("told", "supplies", "price")), 20, words)
