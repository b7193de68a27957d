"""Bundles: points [15], [16], [17]."""

import random

from pressnotes.bundles import bundle_row, is_bundling, laid, many_bundles, number_for, seat_in, star_for
from pressnotes.errors import NoNumber, NoStars
from tests.support import (
    BIG, FORTY_FIGURES, JUNK, TOP, PlainCase, notes_of, number_like, only_lists_for_tuples,
    only_truths_for_numbers, random_runs, run_like, runs_from, runs_like, variants,
)
from tests.test_rows import fewest_pieces

# At its places 0 to 9 stand a10, a11, s5, s6, a14, a15, a16, s7, a18, a19.
TEN = (("a", 10, 20), 4, (("a", 12, 14), ("a", 17, 18)), ("s", 5, 9))


def bundling_like(thing):
    if type(thing) is not tuple or len(thing) != 4:
        return False
    run, size, spoilt, stars = thing
    if not (run_like(run) and number_like(size, 1, 1000) and runs_like(spoilt) and run_like(stars)):
        return False
    for series, low, high in spoilt:
        if series != run[0] or low < run[1] or high > run[2]:
            return False
    many = sum(high - low for series, low, high in spoilt)
    return stars[0] != run[0] and stars[2] - stars[1] >= many


def standing(bundling):
    """What stands at each place, one by one."""
    run, size, spoilt, stars = bundling
    gone = notes_of(spoilt)
    return [(stars[0], stars[1] + gone.index(note)) if note in gone else note for note in notes_of((run,))]


def small_bundlings():
    chance = random.Random(61)
    for _ in range(250):
        low = chance.choice((0, 1, 7, TOP - 40))
        high = low + chance.randint(1, 40)
        some = notes_of(random_runs(chance, 4, "a", low, low + 40))
        spoilt = runs_from([note for note in some if note[1] < high])
        many = len(notes_of(spoilt))
        first = chance.choice((0, 3, TOP - many - 5))
        stars = (chance.choice(("s", "aa")), first, first + max(1, many + chance.randint(0, 3)))
        yield (("a", low, high), chance.choice((1, 2, 3, 5, 10, 40, 1000)), spoilt, stars)


class IsBundlingTest(PlainCase):
    def changed(self, at, thing):
        return TEN[:at] + (thing,) + TEN[at + 1:]

    def test_right_ones(self):
        self.all_true(is_bundling, [
            TEN, self.changed(1, 1), self.changed(1, 1000), self.changed(2, ()), self.changed(2, (("a", 10, 11),)),
            self.changed(2, (("a", 19, 20),)), self.changed(3, ("s", 0, 3)), self.changed(3, ("s", TOP - 3, TOP)),
            self.changed(3, ("aa", 0, 3)), (("a", 0, TOP), 1000, (("a", 0, TOP),), ("s", 0, TOP)),
            (("a", 0, 1), 5, (), ("s", 0, 1)),
        ])

    def test_sizes(self):
        self.all_false(is_bundling, [self.changed(1, size) for size in (0, -1, 1001, BIG, -BIG, True, None, "4", (4,))])

    def test_spoilt_within_the_run(self):
        self.all_false(is_bundling, [self.changed(2, spoilt) for spoilt in (
            (("a", 9, 11),), (("a", 19, 21),), (("a", 5, 6),), (("a", 20, 21),), (("b", 12, 13),), (("s", 5, 6),),
            (("a", 12, 13), ("b", 0, 1)), (("a", 12, 14), ("a", 14, 15)), (("a", 14, 15), ("a", 12, 13)), [],
            None, ("a", 12, 13), [("a", 12, 13)], (["a", 12, 13],), (("a", 12, 13), ("a", 12, 13)),
        )])

    def test_stars(self):
        self.all_false(is_bundling, [self.changed(3, stars) for stars in (
            ("s", 5, 7), ("s", 0, 1), ("a", 0, 4), ("a", 100, 104), None, (), ["s", 5, 9], (("s", 5, 9),),
            ("s", 5, 5), ("s", TOP, TOP + 4), ("S", 5, 9), ("s", 5, 9, 1),
        )])
        self.same(False, is_bundling, (("a", 0, TOP), 9, (("a", 0, TOP),), ("s", 1, TOP)))

    def test_too_short_and_too_long(self):
        self.all_false(is_bundling, [TEN[:3], TEN + (None,), TEN[1:], list(TEN), (TEN,), (), None])

    def test_any_thing(self):
        self.told_as(bundling_like, is_bundling, JUNK)
        for right in (TEN, (("a", 0, 1), 1, (("a", 0, 1),), ("s", TOP - 1, TOP))):
            self.told_as(bundling_like, is_bundling, variants(right))
            self.all_false(is_bundling, only_lists_for_tuples(right))
            self.all_false(is_bundling, only_truths_for_numbers(right))

    def test_of_however_many_runs(self):
        spoilt = tuple(("a", 2 * at, 2 * at + 1) for at in range(900))
        self.same(True, is_bundling, (("a", 0, 1799), 7, spoilt, ("s", 0, 900)))
        self.same(False, is_bundling, (("a", 0, 1798), 7, spoilt, ("s", 0, 900)))
        self.same(False, is_bundling, (("a", 0, 1799), 7, spoilt, ("s", 0, 899)))

    def test_random_ones(self):
        for bundling in small_bundlings():
            self.same(True, is_bundling, bundling)


class BundlesTest(PlainCase):
    def test_many_bundles(self):
        self.same(3, many_bundles, TEN)
        for size, many in ((1, 10), (2, 5), (3, 4), (5, 2), (9, 2), (10, 1), (11, 1), (1000, 1)):
            self.same(many, many_bundles, TEN[:1] + (size,) + TEN[2:])
        self.same(TOP, many_bundles, (("a", 0, TOP), 1, (), ("s", 0, 1)))
        self.same(1000000, many_bundles, (("a", 0, TOP), 1000, (), ("s", 0, 1)))
        self.same(1000000, many_bundles, (("a", 1, TOP), 1000, (), ("s", 0, 1)))

    def test_bundle_row(self):
        self.same((("a", 10, 12), ("s", 5, 7)), bundle_row, TEN, 0)
        self.same((("a", 14, 17), ("s", 7, 8)), bundle_row, TEN, 1)
        self.same((("a", 18, 20),), bundle_row, TEN, 2)

    def test_no_such_bundle(self):
        for k in (-1, -3, 3, 4, BIG, -BIG, FORTY_FIGURES, -FORTY_FIGURES):
            self.refused(NoNumber, {"number": k}, bundle_row, TEN, k)

    def test_a_spoilt_run_across_the_end_of_a_bundle(self):
        bundling = (("a", 0, 8), 4, (("a", 3, 6),), ("s", 9, 12))
        self.same((("a", 0, 3), ("s", 9, 10)), bundle_row, bundling, 0)
        self.same((("s", 10, 12), ("a", 6, 8)), bundle_row, bundling, 1)

    def test_bundles_all_of_stars(self):
        bundling = (("a", 0, 7), 2, (("a", 0, 7),), ("s", 9, 20))
        self.same((("s", 9, 11),), bundle_row, bundling, 0)
        self.same((("s", 11, 13),), bundle_row, bundling, 1)
        self.same((("s", 15, 16),), bundle_row, bundling, 3)
        self.refused(NoNumber, {"number": 4}, bundle_row, bundling, 4)

    def test_against_places_one_by_one(self):
        for bundling in small_bundlings():
            size = bundling[1]
            stands = standing(bundling)
            bundles = [stands[at:at + size] for at in range(0, len(stands), size)]
            self.same(len(bundles), many_bundles, bundling)
            for k, notes in enumerate(bundles):
                self.same(fewest_pieces(notes), bundle_row, bundling, k)
            self.refused(NoNumber, {"number": len(bundles)}, bundle_row, bundling, len(bundles))
            self.refused(NoNumber, {"number": -1}, bundle_row, bundling, -1)

    def test_long_runs(self):
        bundling = (("a", 0, TOP), 1000, (("a", 0, 5), ("a", 500, TOP - 500)), ("s", 0, TOP - 900))
        self.same((("s", 0, 5), ("a", 5, 500), ("s", 5, 505)), bundle_row, bundling, 0)
        self.same((("s", 505, 1505),), bundle_row, bundling, 1)
        last = (("s", TOP - 1000 - 495, TOP - 995), ("a", TOP - 500, TOP))
        self.same(last, bundle_row, bundling, 999999)
        self.refused(NoNumber, {"number": 1000000}, bundle_row, bundling, 1000000)
        self.same((999999, 999), seat_in, bundling, ("a", TOP - 1))
        self.same((999999, 499), seat_in, bundling, ("s", TOP - 996))
        self.refused(NoNumber, {"number": TOP - 995}, seat_in, bundling, ("s", TOP - 995))
        self.same(("s", TOP - 996), star_for, bundling, TOP - 501)
        self.same(TOP - 501, number_for, bundling, ("s", TOP - 996))

    def test_more_spoilt_runs_than_are_handed_in_at_first(self):
        spoilt = tuple(("a", 2 * at, 2 * at + 1) for at in range(700))
        bundling = (("a", 0, 1400), 1000, spoilt, ("s", 0, 700))
        due = [piece for at in range(500) for piece in (("s", at, at + 1), ("a", 2 * at + 1, 2 * at + 2))]
        self.same(tuple(due), bundle_row, bundling, 0)


class StandingTest(PlainCase):
    def test_seat_in(self):
        self.same((0, 0), seat_in, TEN, ("a", 10))
        self.same((0, 1), seat_in, TEN, ("a", 11))
        self.same((0, 2), seat_in, TEN, ("s", 5))
        self.same((0, 3), seat_in, TEN, ("s", 6))
        self.same((1, 0), seat_in, TEN, ("a", 14))
        self.same((1, 3), seat_in, TEN, ("s", 7))
        self.same((2, 1), seat_in, TEN, ("a", 19))

    def test_notes_that_stand_nowhere(self):
        spoilt = [("a", 12), ("a", 13), ("a", 17)]
        for note in spoilt + [("s", 8), ("s", 4), ("s", 9), ("a", 9), ("a", 20), ("b", 12), ("b", 5), ("aa", 10)]:
            self.refused(NoNumber, {"number": note[1]}, seat_in, TEN, note)

    def test_star_for(self):
        self.same(("s", 5), star_for, TEN, 12)
        self.same(("s", 6), star_for, TEN, 13)
        self.same(("s", 7), star_for, TEN, 17)
        for number in (11, 14, 16, 18, 10, 19, 9, 20, 5, 0, -1, TOP, BIG, -BIG, FORTY_FIGURES):
            self.same(None, star_for, TEN, number)

    def test_number_for(self):
        self.same(12, number_for, TEN, ("s", 5))
        self.same(13, number_for, TEN, ("s", 6))
        self.same(17, number_for, TEN, ("s", 7))
        for note in (("s", 8), ("s", 4), ("s", 9), ("a", 12), ("a", 5), ("a", 10), ("b", 5), ("ss", 5), ("s", TOP - 1)):
            self.same(None, number_for, TEN, note)

    def test_there_and_back(self):
        for bundling in small_bundlings():
            run, size, spoilt, stars = bundling
            stands = standing(bundling)
            gone = notes_of(spoilt)
            for place, note in enumerate(stands):
                self.same((place // size, place % size), seat_in, bundling, note)
                number = run[1] + place
                self.same(note if note[0] != "a" else None, star_for, bundling, number)
                self.same(number if note[0] != "a" else None, number_for, bundling, note)
            for note in gone + notes_of((stars,))[len(gone):]:
                self.refused(NoNumber, {"number": note[1]}, seat_in, bundling, note)
                self.same(None, number_for, bundling, note)

    def test_none_spoilt(self):
        bundling = (("a", 10, 20), 4, (), ("s", 5, 9))
        self.same(None, star_for, bundling, 10)
        self.same(None, number_for, bundling, ("s", 5))
        self.refused(NoNumber, {"number": 5}, seat_in, bundling, ("s", 5))


class LaidTest(PlainCase):
    RUN = ("a", 10, 20)

    def test_ordinary(self):
        self.same(TEN, laid, self.RUN, 4, (("a", 12, 14), ("a", 17, 18)), ("s", 5, 9))
        self.same((self.RUN, 4, (), ("s", 5, 9)), laid, self.RUN, 4, (), ("s", 5, 9))

    def test_other_notes_are_left_out(self):
        spoilt = (("a", 0, 3), ("a", 8, 12), ("a", 19, 25), ("b", 12, 14), ("s", 5, 6))
        self.same((self.RUN, 4, (("a", 10, 12), ("a", 19, 20)), ("s", 5, 9)), laid, self.RUN, 4, spoilt, ("s", 5, 9))
        self.same((self.RUN, 4, (), ("s", 5, 9)), laid, self.RUN, 4, (("a", 0, 10), ("a", 20, 30)), ("s", 5, 9))
        whole = (self.RUN, 1000, (self.RUN,), ("s", 0, 10))
        self.same(whole, laid, self.RUN, 1000, (("a", 0, TOP),), ("s", 0, 10))

    def test_stars_of_just_as_many(self):
        due = (self.RUN, 1, (("a", 12, 15),), ("s", 5, 8))
        self.same(due, laid, self.RUN, 1, (("a", 12, 15),), ("s", 5, 8))

    def test_too_few_stars(self):
        self.refused(NoStars, {"many": 1}, laid, self.RUN, 4, (("a", 12, 16),), ("s", 5, 8))
        self.refused(NoStars, {"many": 9}, laid, self.RUN, 4, (("a", 0, TOP),), ("s", 5, 6))
        self.refused(NoStars, {"many": 2}, laid, self.RUN, 4, (("a", 8, 12), ("a", 19, 25), ("b", 0, 9)), ("s", 5, 6))
        self.refused(NoStars, {"many": TOP - 1}, laid, ("a", 0, TOP), 4, (("a", 0, TOP),), ("s", 5, 6))

    def test_against_notes_one_by_one(self):
        chance = random.Random(62)
        for _ in range(600):
            low = chance.randint(0, 20)
            run = ("a", low, low + chance.randint(1, 20))
            spoilt = runs_from(notes_of(random_runs(chance, 4, ["a", "b"], 0, 40)))
            stars = ("s", 3, 3 + chance.randint(1, 12))
            gone = set(notes_of(spoilt)) & set(notes_of((run,)))
            if len(gone) > stars[2] - stars[1]:
                self.refused(NoStars, {"many": len(gone) - stars[2] + stars[1]}, laid, run, 5, spoilt, stars)
            else:
                self.same((run, 5, runs_from(gone), stars), laid, run, 5, spoilt, stars)

    def test_what_is_laid_is_a_bundling(self):
        self.same(True, is_bundling, laid(self.RUN, 4, (("a", 8, 12), ("a", 19, 25), ("b", 0, 9)), ("s", 5, 8)))
