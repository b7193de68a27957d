"""How things are written: point [73]."""

import random

from pressnotes.texts import shown_book, shown_name, shown_page, shown_row, shown_runs
from tests.support import TOP, PlainCase, notes_of, random_runs, runs_from
from tests.test_books import bag, count, move, name, random_book, read, void


def shown_due(runs):
    """Runs as [73] has them, by their notes."""
    texts = []
    for run in runs:
        notes = notes_of((run,))
        text = notes[0][0] + ":" + str(notes[0][1])
        texts.append(text if len(notes) == 1 else text + "-" + str(notes[-1][1]))
    return ",".join(texts)


WRITTEN = (
    ("1.0.a move none press a:0-4", move(name(1))),
    ("12.3.b move press bank a:7,b:0-999999999", move((12, 3, "b"), "press", "bank", (("a", 7, 8), ("b", 0, TOP)))),
    ("2.0.a bag press bank 4", bag(name(2))), ("2.1.a bag bank post 1000000000", bag(name(2, 1), "bank", "post", TOP)),
    ("3.0.a read 2.0.a a:0-4", read(name(3), name(2))), ("3.0.a read 99999.999.z a:3", read(
        name(3), (99999, 999, "z"), (("a", 3, 4),))),
    ("4.0.a count bank 3", count(name(4))), ("4.0.a count bank 0", count(name(4), "bank", 0)),
    ("4.0.a count post 1000000000000", count(name(4), "post", 10 ** 12)), ("5.0.a void 5.0.a", void(name(5), name(5))),
    ("5.0.a void 0.0.zz", void(name(5), (0, 0, "zz"))),
)


class RunsTest(PlainCase):
    def test_runs(self):
        for text, runs in (
            ("-", ()), ("a:7", (("a", 7, 8),)), ("a:0-11", (("a", 0, 12),)), ("a:0", (("a", 0, 1),)),
            ("a:0-1", (("a", 0, 2),)), ("a:0-11,a:13,b:5-6", (("a", 0, 12), ("a", 13, 14), ("b", 5, 7))),
            ("abcdefgh:999999999", (("abcdefgh", TOP - 1, TOP),)), ("z:0-999999999", (("z", 0, TOP),)),
            ("none:10-20", (("none", 10, 21),)),
        ):
            self.same(text, shown_runs, runs)

    def test_rows(self):
        for text, row in (
            ("a:7", (("a", 7, 8),)), ("b:5-6,a:0-11,a:12", (("b", 5, 7), ("a", 0, 12), ("a", 12, 13))),
            ("a:1,a:1", (("a", 1, 2), ("a", 1, 2))), ("a:5-9,a:0-4", (("a", 5, 10), ("a", 0, 5))),
        ):
            self.same(text, shown_row, row)

    def test_more_runs_than_are_handed_in(self):
        runs = tuple(("a", 2 * at, 2 * at + 1) for at in range(60))
        self.same(",".join("a:" + str(2 * at) for at in range(60)), shown_runs, runs)
        self.same(",".join("a:" + str(2 * at) for at in range(60)), shown_row, runs)

    def test_random_ones(self):
        chance = random.Random(311)
        for _ in range(300):
            some = tuple(random_runs(chance, 6))
            runs = runs_from(notes_of(some))
            self.same(shown_due(runs) or "-", shown_runs, runs)
            if some:
                self.same(shown_due(some), shown_row, some)


class PagesTest(PlainCase):
    def test_names(self):
        for text, at in (("12.0.b", (12, 0, "b")), ("0.0.a", (0, 0, "a")),
                         ("99999.999.zzzzzzzz", (99999, 999, "zzzzzzzz"))):
            self.same(text, shown_name, at)

    def test_pages(self):
        for text, page in WRITTEN:
            self.same(text, shown_page, page)

    def test_books(self):
        self.same([], shown_book, ())
        self.same(["1.0.a move none press a:0-4", "2.0.a bag press bank 4", "10.0.a void 1.0.a"], shown_book,
                  (move(name(1)), bag(name(2)), void(name(10), name(1))))
        chance = random.Random(312)
        for _ in range(60):
            book = random_book(chance)
            self.same([shown_page(page) for page in book], shown_book, book)

    def test_the_list_is_the_askers_own(self):
        book = (move(name(1)),)
        shown_book(book).append("more")
        self.same(["1.0.a move none press a:0-4"], shown_book, book)
