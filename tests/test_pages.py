"""Names and pages: points [3] and [25]."""

from pressnotes.pages import is_name, is_page
from tests.support import (
    BIG, FORTY_FIGURES, JUNK, TOP, PlainCase, number_like, only_lists_for_tuples, only_truths_for_numbers,
    runs_like, variants, word_like,
)
from tests.test_offices import OFFICE, ROADS, WORTHS

NAME = (12, 3, "b")
RUNS = (("a", 0, 5), ("b", 7, 9))
MOVE = (NAME, ("move", "none", "press", RUNS))
BAG = (NAME, ("bag", "press", "bank", 4))
READ = (NAME, ("read", (11, 0, "c"), RUNS))
COUNT = (NAME, ("count", "bank", 7))
VOID = (NAME, ("void", (13, 1, "a")))
PAGES = (MOVE, BAG, READ, COUNT, VOID)


def name_like(thing):
    if type(thing) is not tuple or len(thing) != 3:
        return False
    return number_like(thing[0], 0, 99999) and number_like(thing[1], 0, 999) and word_like(thing[2])


def deed_like(office, deed):
    """A deed of an office, told by the word and the things behind it."""
    series = [pair[0] for pair in office[0]]
    word, rest = deed[0], deed[1:]
    is_road = any(rest[:2] == road for road in office[1])

    def are_named(runs):
        return runs_like(runs) and runs != () and all(run[0] in series for run in runs)

    if word == "move":
        return len(rest) == 3 and is_road and are_named(rest[2])
    if word == "bag":
        return len(rest) == 3 and is_road and rest[0] != "none" and number_like(rest[2], 1, 1000000000)
    if word == "read":
        return len(rest) == 2 and name_like(rest[0]) and are_named(rest[1])
    if word == "count":
        places = {place for road in office[1] for place in road} - {"none"}
        return len(rest) == 2 and type(rest[0]) is str and rest[0] in places and number_like(rest[1], 0, 10 ** 12)
    return word == "void" and len(rest) == 1 and name_like(rest[0])


def page_like(office, thing):
    if type(thing) is not tuple or len(thing) != 2 or not name_like(thing[0]):
        return False
    return type(thing[1]) is tuple and thing[1] != () and deed_like(office, thing[1])


class IsNameTest(PlainCase):
    def test_right_ones(self):
        self.all_true(is_name, [
            NAME, (0, 0, "a"), (99999, 999, "zzzzzzzz"), (0, 999, "none"), (99999, 0, "abcdefgh"), (1, 1, "a"),
        ])

    def test_wrong_ones(self):
        self.all_false(is_name, [
            (-1, 0, "a"), (100000, 0, "a"), (0, -1, "a"), (0, 1000, "a"), (0, 0, ""), (0, 0, "abcdefghi"), (0, 0, "A"),
            (0, 0, "a1"), (0, 0, "a b"), (True, 0, "a"), (0, True, "a"), (False, 0, "a"), (0, False, "a"),
            (None, 0, "a"), (0, None, "a"), (0, 0, None), (0, 0, 0), ("0", 0, "a"), (0, "0", "a"), (0, 0),
            (0, 0, "a", 0), [0, 0, "a"], ((0, 0, "a"),), (), None, "0.0.a", (BIG, 0, "a"), (0, BIG, "a"),
            (-BIG, 0, "a"), (FORTY_FIGURES, 0, "a"), (0, 0, ("a",)), ((0,), 0, "a"), ([0], 0, "a"), (0, 0, ["a"]),
            ("a", 0, 0),
        ])

    def test_any_thing(self):
        self.told_as(name_like, is_name, JUNK)
        for right in (NAME, (0, 0, "a"), (99999, 999, "abcdefgh")):
            self.told_as(name_like, is_name, variants(right))
            self.all_false(is_name, only_lists_for_tuples(right))
            self.all_false(is_name, only_truths_for_numbers(right))


class IsPageTest(PlainCase):
    def right(self, deed, office=OFFICE):
        self.same(True, is_page, office, (NAME, deed))

    def wrong(self, *deeds):
        for deed in deeds:
            self.same(False, is_page, OFFICE, (NAME, deed))

    def test_right_ones(self):
        for page in PAGES:
            self.same(True, is_page, OFFICE, page)

    def test_moves(self):
        for road in ROADS:
            self.right(("move",) + road + (RUNS,))
        self.right(("move", "none", "press", (("a", 0, TOP),)))
        self.right(("move", "none", "press", (("b", 0, 1),)))
        self.wrong(
            ("move", "none", "bank", RUNS), ("move", "press", "none", RUNS), ("move", "bank", "press", RUNS),
            ("move", "press", "press", RUNS), ("move", "bank", "harbour", RUNS), ("move", "none", "press", ()),
            ("move", "none", "press", (("c", 0, 1),)), ("move", "none", "press", (("a", 0, 1), ("ab", 0, 1))),
            ("move", "none", "press", (("a", 0, 1), ("a", 1, 2))), ("move", "none", "press", None),
            ("move", "none", "press", (("a", 1, 1),)), ("move", "none", "press", (("b", 0, 1), ("a", 0, 1))),
            ("move", "none", "press", ("a", 0, 1)), ("move", "none", "press", 4), ("move", "none", "press"),
            ("move", "none", "press", RUNS, RUNS), ("move", ("none", "press"), RUNS), ("move", None, "press", RUNS),
            ("move", "none", ["press"], RUNS), ["move", "none", "press", RUNS], ("move", "none", "press", list(RUNS)),
        )

    def test_bags(self):
        for road in ROADS:
            self.same(road[0] != "none", is_page, OFFICE, (NAME, ("bag",) + road + (4,)))
        for many in (1, 2, TOP - 1, TOP):
            self.right(("bag", "press", "bank", many))
        for many in (0, -1, TOP + 1, BIG, -BIG, FORTY_FIGURES, True, False, None, "4", (4,), RUNS):
            self.wrong(("bag", "press", "bank", many))
        self.wrong(
            ("bag", "bank", "press", 4), ("bag", "none", "press", 4), ("bag", "none", "bank", 4), ("bag", "bank", 4),
            ("bag", "press", "bank"), ("bag", "press", "bank", 4, 4), ("bag", "press", "none", 4), ("bag", 4, 4, 4),
        )

    def test_reads(self):
        self.right(("read", NAME, RUNS))
        self.right(("read", (99999, 999, "zzzzzzzz"), (("b", 0, TOP),)))
        self.wrong(
            ("read", (100000, 0, "a"), RUNS), ("read", (0, 1000, "a"), RUNS), ("read", (0, 0, "A"), RUNS),
            ("read", (0, True, "a"), RUNS), ("read", None, RUNS), ("read", [0, 0, "a"], RUNS), ("read", NAME, ()),
            ("read", NAME, (("c", 0, 1),)), ("read", NAME, None), ("read", NAME), ("read", RUNS), ("read", RUNS, NAME),
            ("read", NAME, RUNS, 1), ("read", NAME, list(RUNS)), ("read", NAME, (("a", 0, 3), ("a", 3, 5))),
        )

    def test_counts(self):
        for place in ("bank", "post", "press"):
            self.right(("count", place, 3))
        for many in (0, 1, 10 ** 12 - 1, 10 ** 12):
            self.right(("count", "bank", many))
        for many in (-1, 10 ** 12 + 1, BIG, -BIG, FORTY_FIGURES, True, False, None, "0", (0,)):
            self.wrong(("count", "bank", many))
        self.wrong(
            ("count", "none", 0), ("count", "harbour", 0), ("count", None, 0), ("count", "bank"), ("count", 0, "bank"),
            ("count", "bank", 0, 0), ("count", ("bank",), 0), ("count", "ban", 0), ("count", "a", 0),
        )

    def test_voids(self):
        self.right(("void", NAME))
        self.right(("void", (0, 0, "a")))
        self.wrong(
            ("void",), ("void", None), ("void", NAME, NAME), ("void", (0, 0)), ("void", (0, 0, "A")),
            ("void", [0, 0, "a"]), ("void", (-1, 0, "a")), ("void", (0, 0, "a", 0)), ("void", (False, 0, "a")),
            ("void", 0, 0, "a"), ("void", VOID),
        )

    def test_other_deeds(self):
        self.wrong(
            (), None, "move", ("burn", "press", "bank", RUNS), ("Move", "none", "press", RUNS), (None,), 0, True,
            (True, NAME), (("void",), NAME), ["void", NAME], (NAME,), ("", NAME), (NAME, "void"), ("voids", NAME),
        )

    def test_names_of_pages(self):
        for page in PAGES:
            for name in ((-1, 0, "a"), (0, 1000, "a"), (0, 0, "A"), (0, True, "a"), None, [0, 0, "a"], (0, 0), (), "a"):
                self.same(False, is_page, OFFICE, (name, page[1]))

    def test_too_short_and_too_long(self):
        for page in PAGES:
            for wrong in (page[:1], page[1:], page + (None,), list(page), (page,), page + page, page[::-1]):
                self.same(False, is_page, OFFICE, wrong)

    def test_pages_of_other_offices(self):
        other = ((("c", 5),), (("none", "press"), ("press", "harbour")))
        self.same(False, is_page, other, MOVE)
        self.same(True, is_page, other, (NAME, ("move", "none", "press", (("c", 0, 5),))))
        self.same(False, is_page, other, BAG)
        self.same(True, is_page, other, (NAME, ("bag", "press", "harbour", 4)))
        self.same(False, is_page, other, READ)
        self.same(False, is_page, other, COUNT)
        self.same(True, is_page, other, (NAME, ("count", "harbour", 7)))
        self.same(True, is_page, other, VOID)

    def test_series_of_the_least_worth(self):
        office = ((("a", 1), ("b", 1)), ROADS)
        for page in PAGES:
            self.same(True, is_page, office, page)

    def test_beyond_what_is_handed_in_elsewhere(self):
        sixty = tuple(("a", 3 * at, 3 * at + 1) for at in range(60))
        self.right(("move", "none", "press", sixty))
        self.right(("read", NAME, sixty))
        worths = tuple((series, BIG) for series in "abcdef")
        places = ["p", "q", "r", "s", "t", "u", "v"]
        roads = tuple(sorted((one, other) for one in places for other in places if one != other))
        self.right(("move", "v", "u", (("f", 0, 1),)), (worths, roads))
        self.right(("count", "v", 1), (worths, roads))
        self.same(False, is_page, (worths, roads), (NAME, ("move", "v", "u", (("g", 0, 1),))))
        self.same(False, is_page, (WORTHS, ROADS), (NAME, ("move", "none", "press", sixty + (("a", 178, 180),))))

    def test_any_thing(self):
        for thing in JUNK:
            self.same(page_like(OFFICE, thing), is_page, OFFICE, thing)
        for page in PAGES:
            for thing in variants(page):
                self.same(page_like(OFFICE, thing), is_page, OFFICE, thing)
            for thing in list(only_lists_for_tuples(page)) + list(only_truths_for_numbers(page)):
                self.same(False, is_page, OFFICE, thing)
