"""Counts: points [70] to [72]."""

import random

from pressnotes.balances import balance
from pressnotes.counts import first_off, lets_offs, off_paper, offs
from tests.support import (
    BIG, JUNK, TOP, PlainCase, notes_of, only_lists_for_tuples, only_truths_for_numbers, variants,
)
from tests.test_books import bag, count, move, name, names_due, random_book, read, void
from tests.test_prices import priced_like


def passing_due(book, place):
    """What each counted move and bag brings to the place or takes, note by note, by names."""
    pages = dict(book)
    found = {}
    for at in names_due(book, "counted"):
        deed = pages[at]
        if deed[0] in ("move", "bag"):
            many = len(notes_of(deed[3])) if deed[0] == "move" else deed[3]
            if deed[2] == place:
                found[at] = many
            elif deed[1] == place:
                found[at] = -many
    return found


def counts_due(book, place):
    pages = dict(book)
    return {at: pages[at][2] for at in names_due(book, "counted") if pages[at][:2] == ("count", place)}


def offs_due(book, place):
    """By the words of [70]."""
    passing = passing_due(book, place)
    found = []
    for at, many in counts_due(book, place).items():
        found.append((at, many - sum(passing[other] for other in passing if other < at)))
    return found


def paper_due(book, place, one, other):
    """By the words of [71]."""
    passing = passing_due(book, place)
    return tuple((at, passing[at]) for at in sorted(passing) if at < other and (one is None or at > one))


def lets_due(book, place, one, other, thing):
    """What any thing is as an OFF PAPER, by the words of [71]."""
    if not priced_like(thing):
        return ("shape", -1)
    due = dict(paper_due(book, place, one, other))
    for k, (at, many) in enumerate(thing):
        if at not in due or any(at <= earlier for earlier, number in thing[max(0, k - 1):k]):
            return ("page", k)
        if many != due[at]:
            return ("many", k)
    for k, (at, deed) in enumerate(book):
        if at in due and at not in dict(thing):
            return ("lacks", k)
    said = counts_due(book, place)
    first = 0 if one is None else said[one]
    return ("told", abs(said[other] - first - sum(many for at, many in thing)))


# At bank: five come on day 2, three on day 4 in a bag, two go on day 6; day 3 and day 8 are voided; elsewhere day 1.
BOOK = (
    move(name(1)), move(name(2), "press", "bank"), move(name(3), "press", "bank", (("b", 0, 9),)),
    bag(name(4), "press", "bank", 3), read(name(4, 1), name(4), (("a", 5, 6),)), count(name(5), "bank", 9),
    move(name(6), "bank", "post", (("a", 0, 2),)), count(name(7), "bank", 6), count(name(8), "bank", 99),
    count(name(9), "post", 2), void(name(10), name(3)), void(name(11), name(8)), count(name(12), "bank", 7),
    bag(name(13), "bank", "post", 4),
)
PAPER = ((name(2), 5), (name(4), 3), (name(6), -2))


class OffsTest(PlainCase):
    def told(self, due, book, place):
        self.assertEqual(due, offs_due(book, place))
        self.same(due, offs, book, place)

    def test_none(self):
        for book in ((), (move(name(1)),), (count(name(1), "post", 5),), BOOK[:5]):
            self.told([], book, "bank")
        self.told([], BOOK, "press")
        self.told([], BOOK, "none")
        self.told([], BOOK, "mint")

    def test_some(self):
        self.told([(name(5), 1), (name(7), 0), (name(12), 1)], BOOK, "bank")
        self.told([(name(9), 0)], BOOK, "post")

    def test_below_0(self):
        self.told([(name(3), -5)], (move(name(1)), count(name(3), "press", 0)), "press")
        self.told([(name(1), 0), (name(3), 4)], (count(name(1), "press", 0), bag(name(2)), count(name(3), "press", 0)),
                  "press")
        great = (move(name(1), runs=(("a", 0, TOP), ("b", 0, TOP))), count(name(9), "press", 3))
        self.same([(name(9), 3 - 2 * TOP)], offs, great, "press")

    def test_only_pages_ahead_count(self):
        book = (count(name(1), "press", 3), move(name(1, 0, "b")), count(name(1, 1), "press", 5))
        self.told([(name(1), 3), (name(1, 1), 0)], book, "press")

    def test_counted_in_the_whole_book(self):
        # A void told behind the count takes the move out of it, too.
        book = (move(name(1)), count(name(2), "press", 5))
        self.told([(name(2), 0)], book, "press")
        self.told([(name(2), 5)], book + (void(name(9), name(1)),), "press")

    def test_reads_turn_nothing(self):
        book = (bag(name(1), "press", "bank", 4), read(name(2), name(1)), count(name(3), "bank", 4))
        self.told([(name(3), 0)], book, "bank")

    def test_voided_counts(self):
        book = (count(name(1), "bank", 3), count(name(2), "bank", 4), void(name(3), name(1)))
        self.told([(name(2), 4)], book, "bank")
        self.told([], book + (void(name(4), name(2)),), "bank")

    def test_the_list_is_the_askers_own(self):
        offs(BOOK, "bank").clear()
        self.told([(name(5), 1), (name(7), 0), (name(12), 1)], BOOK, "bank")


class FirstOffTest(PlainCase):
    def test_none(self):
        for book in ((), (move(name(1)),), (count(name(1), "bank", 0),),
                     (move(name(1)), count(name(2), "press", 5), count(name(3), "press", 5)),
                     (count(name(1), "bank", 3), void(name(2), name(1)))):
            self.same(None, first_off, book, "press")
            self.same(None, first_off, book, "bank")
        self.same(None, first_off, BOOK, "post")

    def test_the_beginning(self):
        self.same((None, name(5)), first_off, BOOK, "bank")
        self.same((None, name(3)), first_off, (move(name(1)), count(name(3), "press", 0)), "press")

    def test_neighbours(self):
        book = (move(name(1)), count(name(2), "press", 5), count(name(3), "press", 5), count(name(4), "press", 6),
                count(name(5), "press", 9))
        self.same((name(3), name(4)), first_off, book, "press")
        # All are off alike from the first on: only the beginning is unlike.
        book = (move(name(1)), count(name(2), "press", 7), count(name(3), "press", 7))
        self.same((None, name(2)), first_off, book, "press")
        # Voided ones are no neighbours.
        book = (count(name(2), "press", 0), count(name(3), "press", 9), count(name(4), "press", 1),
                void(name(5), name(3)))
        self.same((name(2), name(4)), first_off, book, "press")


class PaperTest(PlainCase):
    def test_told(self):
        self.same(PAPER[:2], off_paper, BOOK, "bank", None, name(5))
        self.same(PAPER, off_paper, BOOK, "bank", None, name(7))
        self.same(PAPER[2:], off_paper, BOOK, "bank", name(5), name(7))
        self.same(PAPER[2:], off_paper, BOOK, "bank", name(5), name(12))
        self.same((), off_paper, BOOK, "bank", name(7), name(12))
        self.same(((name(6), 2),), off_paper, BOOK, "post", None, name(9))
        self.same((), off_paper, (count(name(1), "bank", 3),), "bank", None, name(1))

    def test_none_is_like_any_place(self):
        self.same((), off_paper, (count(name(1)), count(name(2))), "bank", name(1), name(2))


class LetsOffsTest(PlainCase):
    def due(self, due, thing, one=None, other=name(7), book=BOOK, place="bank"):
        self.assertEqual(due, lets_due(book, place, one, other, thing), thing)
        self.same_or_no_paper(due, lets_offs, book, place, one, other, thing)

    def test_right_ones(self):
        self.due(("told", 0), PAPER)
        self.due(("told", 1), PAPER[:2], None, name(5))
        self.due(("told", 1), PAPER[2:], name(5), name(7))
        self.due(("told", 0), PAPER[2:], name(5), name(12))
        self.due(("told", 1), (), name(7), name(12))
        self.due(("told", 0), ((name(6), 2),), None, name(9), BOOK, "post")
        self.due(("told", 3), (), None, name(1), (count(name(1), "bank", 3),))

    def test_either_way(self):
        book = (count(name(1), "press", 4), move(name(2)), count(name(3), "press", 2), count(name(4), "press", 20))
        self.due(("told", 7), ((name(2), 5),), name(1), name(3), book, "press")
        self.due(("told", 3), ((name(2), 5),), None, name(3), book, "press")
        self.due(("told", 11), ((name(2), 5),), name(1), name(4), book, "press")
        self.due(("told", 18), (), name(3), name(4), book, "press")

    def test_shape(self):
        for thing in (
            None, True, 0, "", [], [PAPER[0]], list(PAPER), PAPER[0], (None,), (PAPER,), ((name(2),),),
            ((name(2), 5, 5),), ([name(2), 5],), ((name(2), True),), ((name(2), "5"),), ((name(2), None),),
            (((2, 0), 5),), ((list(name(2)), 5),), (((True, 0, "a"), 5),), ((5, name(2)),), PAPER + (None,),
            ((name(1), 9), None),
        ):
            self.due(("shape", -1), thing)

    def test_pages(self):
        one, two, three = PAPER
        for k, thing in (
            (0, ((name(1), 5),)), (0, ((name(3), 9),)), (0, ((name(5), 9),)), (1, (one, one)), (1, (two, one)),
            (2, (one, two, two)), (2, (one, two, one)), (2, (one, two, (name(4, 1), 1))),
            (3, PAPER + ((name(13), -4),)),
            (3, PAPER + ((name(9), 0),)), (0, ((name(0), BIG),) + PAPER), (0, ((name(13), -4),)),
            (1, (three, one, two)),
            (2, (one, two, (name(7), 6), three)), (1, (one, (name(2, 0, "b"), 5))),
        ):
            self.due(("page", k), thing)
        # Behind the one and ahead of the other alone.
        self.due(("page", 0), PAPER, name(5), name(7))
        self.due(("page", 2), PAPER, None, name(5))

    def test_many(self):
        one, two, three = PAPER
        for k, thing in (
            (0, ((name(2), 4),)), (0, ((name(2), -5), two, three)), (1, (one, (name(4), 2), three)),
            (2, (one, two, (name(6), 2))), (2, (one, two, (name(6), BIG))), (0, ((name(2), 0),)),
            # Part by part: a wrong number goes ahead of a later part's wrong name.
            (0, ((name(2), 4), (name(3), 9))), (1, (one, (name(4), 9), (name(1), 1))),
        ):
            self.due(("many", k), thing)
        self.due(("page", 1), (one, (name(3), 9), (name(6), 9)))

    def test_lacks(self):
        one, two, three = PAPER
        # Their places among all pages of the book, other places' and voided ones, too.
        for k, thing in ((1, ()), (1, (two, three)), (3, (one, three)), (6, (one, two)), (3, (one,)), (1, (three,))):
            self.due(("lacks", k), thing)
        self.due(("lacks", 6), (), name(5), name(7))
        self.due(("lacks", 1), (), None, name(5))

    def test_any_thing(self):
        for thing in list(JUNK) + list(variants(PAPER)):
            self.due(lets_due(BOOK, "bank", None, name(7), thing), thing)
        for thing in list(only_lists_for_tuples(PAPER)) + list(only_truths_for_numbers(PAPER)):
            self.due(("shape", -1), thing)

    def test_great_numbers(self):
        book = (move(name(1), runs=(("a", 0, TOP), ("b", 0, TOP))), count(name(2), "press", 10 ** 12))
        self.same(10 ** 12 - 2 * TOP, lets_offs, book, "press", None, name(2), ((name(1), 2 * TOP),))
        self.same([(name(2), 10 ** 12 - 2 * TOP)], offs, book, "press")


class RandomTest(PlainCase):
    def test_random_books(self):
        chance = random.Random(301)
        seen = {"offs": 0, "below": 0, "first": 0, "none": 0, "pairs": 0}
        for _ in range(500):
            book = random_book(chance, 14)
            extra = [count((day, 2, "c"), chance.choice(("bank", "press")), chance.randint(0, 9)) for day in range(4)]
            book = tuple(sorted(book + tuple(chance.sample(extra, 3))))
            for place in ("bank", "press", "post"):
                due = offs_due(book, place)
                self.same(due, offs, book, place)
                seen["offs"] += len(due) > 1
                seen["below"] += any(off < 0 for at, off in due)
                rows = [(None, 0)] + due
                unlike = [(a[0], b[0]) for a, b in zip(rows, rows[1:]) if a[1] != b[1]]
                first = unlike[0] if unlike else None
                self.same(first, first_off, book, place)
                seen["none" if first is None else "first"] += 1
                for k, (one, off) in enumerate(rows):
                    for other, other_off in rows[k + 1:]:
                        paper = paper_due(book, place, one, other)
                        self.same(paper, off_paper, book, place, one, other)
                        # The number shown is what their OFFS differ by.
                        self.same(abs(off - other_off), lets_offs, book, place, one, other, paper)
                        seen["pairs"] += 1
        self.assertGreater(min(seen.values()), 100, seen)

    def test_a_count_at_the_end_is_off_by_the_balance(self):
        chance = random.Random(302)
        for _ in range(100):
            book = random_book(chance, 10)
            last = count((9, 0, "a"), "bank", 5)
            self.assertEqual((last[0], 5 - balance(book, "bank")), offs(book + (last,), "bank")[-1])
