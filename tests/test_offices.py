"""Offices: points [3] and [25]."""

from pressnotes.offices import is_office, places_of, worth_of
from tests.support import (
    BIG, FORTY_FIGURES, JUNK, PlainCase, number_like, only_lists_for_tuples, only_truths_for_numbers, variants,
    word_like,
)

WORTHS = (("a", 5), ("b", 10))
ROADS = (("bank", "post"), ("none", "press"), ("post", "bank"), ("press", "bank"))
OFFICE = (WORTHS, ROADS)


def pairs_like(thing, pair_like, key):
    if type(thing) is not tuple or len(thing) == 0:
        return False
    if not all(type(pair) is tuple and len(pair) == 2 and pair_like(pair) for pair in thing):
        return False
    keys = [key(pair) for pair in thing]
    return keys == sorted(set(keys))


def office_like(thing):
    if type(thing) is not tuple or len(thing) != 2:
        return False
    worths, roads = thing

    def worth_like(pair):
        return word_like(pair[0]) and number_like(pair[1], 1, 10 ** 50)

    def road_like(pair):
        return word_like(pair[0]) and word_like(pair[1]) and pair[0] != pair[1] and pair[1] != "none"

    return pairs_like(worths, worth_like, lambda pair: pair[0]) and pairs_like(roads, road_like, lambda pair: pair)


class IsOfficeTest(PlainCase):
    def test_right_ones(self):
        self.all_true(is_office, [
            OFFICE, ((("a", 1),), (("none", "press"),)), ((("a", 1),), (("bank", "post"),)),
            ((("a", 5), ("ab", 5), ("b", 5)), ROADS), ((("a", 10), ("b", 5)), ROADS),
            ((("none", 1),), (("none", "none" + "x"),)), ((("abcdefgh", 1),), (("abcdefgh", "hgfedcba"),)),
            (WORTHS, (("a", "b"), ("a", "c"), ("b", "a"))),
        ])

    def test_beyond_what_is_handed_in_elsewhere(self):
        worths = tuple((series, 1) for series in ("a", "b", "c", "d", "e", "f"))
        self.same(True, is_office, (worths, ROADS))
        words = ["none", "p", "q", "r", "s", "t", "u", "v", "w", "x"]
        roads = tuple(sorted((one, other) for one in words for other in words[1:] if one != other))
        self.assertGreater(len(roads), 30)
        self.same(True, is_office, (worths, roads[:30]))
        self.same(True, is_office, (worths, roads))
        self.all_true(is_office, [((("a", worth),), ROADS) for worth in (1, 1000000, 1000001, BIG, FORTY_FIGURES)])

    def test_wrong_worths(self):
        self.all_false(is_office, [(worths, ROADS) for worths in (
            (), None, [("a", 5)], (["a", 5],), ("a", 5), (("a", 0),), (("a", -1),), (("a", -BIG),), (("a", True),),
            (("a", None),), (("a", "5"),), (("a",),), (("a", 5, 6),), (("A", 5),), (("", 5),), (("abcdefghi", 5),),
            (("b", 5), ("a", 5)), (("a", 5), ("a", 5)), (("a", 5), ("a", 6)), (("a", 5), ("b", 0)), (("a", 5), None),
            (5,), ((5, "a"),), (("a", (5,)),), (("a", 5), ("c", 5), ("b", 5)), ((("a", 5),),), (("a", 6), ("a", 5)),
        )])

    def test_wrong_roads(self):
        self.all_false(is_office, [(WORTHS, roads) for roads in (
            (), None, [("none", "bank")], (["none", "bank"],), ("none", "bank"), (("bank", "none"),),
            (("none", "none"),), (("bank", "bank"),), (("bank",),), (("bank", "post", "press"),), (("bank", 1),),
            (("Bank", "post"),), (("bank", ""),), (("", "bank"),), (("bank", "abcdefghi"),), (("abcdefghi", "bank"),),
            (("post", "bank"), ("bank", "post")), (("bank", "post"), ("bank", "post")),
            (("bank", "press"), ("bank", "post")), (("bank", "post"), None), (("bank", True),), ((True, "bank"),),
            (("bank", ("post",)),), ((("bank", "post"),),), (("bank", "post"), ("post", "none")), ("bankpost",),
            (("a", "b"), ("b", "a"), ("a", "c")),
        )])

    def test_too_short_and_too_long(self):
        self.all_false(is_office, [
            (WORTHS,), (WORTHS, ROADS, ROADS), (WORTHS, ROADS, None), [WORTHS, ROADS], (ROADS, WORTHS), (), None,
            (OFFICE,), WORTHS, ROADS, [],
        ])

    def test_any_thing(self):
        self.told_as(office_like, is_office, JUNK)
        for right in (OFFICE, ((("a", 1),), (("none", "press"),))):
            self.told_as(office_like, is_office, variants(right))
            self.all_false(is_office, only_lists_for_tuples(right))
            self.all_false(is_office, only_truths_for_numbers(right))


class AskedOfOfficesTest(PlainCase):
    def test_places_of(self):
        self.same(("bank", "none", "post", "press"), places_of, OFFICE)
        self.same(("none", "press"), places_of, (WORTHS, (("none", "press"),)))
        self.same(("bank", "none", "post"), places_of, (WORTHS, (("bank", "post"),)))
        self.same(("a", "none", "z"), places_of, (WORTHS, (("a", "z"), ("z", "a"))))
        roads = tuple(sorted((one, other) for one in "abcdefghij" for other in "abcdefghij" if one != other))
        self.same(tuple("abcdefghij") + ("none",), places_of, (WORTHS, roads))

    def test_worth_of(self):
        self.same(5, worth_of, OFFICE, "a")
        self.same(10, worth_of, OFFICE, "b")
        for series in ("c", "ab", "aa", "bank", "none"):
            self.same(0, worth_of, OFFICE, series)
        office = ((("a", 1), ("b", FORTY_FIGURES)), ROADS)
        self.same(FORTY_FIGURES, worth_of, office, "b")
        self.same(1, worth_of, office, "a")
