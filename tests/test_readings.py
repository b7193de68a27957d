"""Texts read: points [74] and [75]."""

import random
import re

from pressnotes.errors import NoText
from pressnotes.readings import read_book, read_page, read_row_text, read_runs
from pressnotes.texts import shown_book, shown_page, shown_row, shown_runs
from tests.support import (
    JUNK, TOP, PlainCase, notes_of, office_places, random_office, random_runs, runs_from, runs_like,
)
from tests.test_books import bag, count, move, name, random_book, read, void
from tests.test_offices import OFFICE, WORTHS
from tests.test_texts import WRITTEN

FIGURES = "(0|[1-9][0-9]*)"


def number_due(word, least, most):
    if not re.fullmatch(FIGURES, word) or len(word) > 30:
        return None
    return int(word) if least <= int(word) <= most else None


def row_due(word):
    """The pieces that a word writes, None where it writes none."""
    pieces = []
    for part in word.split(","):
        match = re.fullmatch(f"([a-z]{{1,8}}):{FIGURES}(-{FIGURES})?", part)
        if match is None:
            return None
        low = number_due(match.group(2), 0, TOP - 1)
        last = low if match.group(3) is None else number_due(match.group(4), 0, TOP - 1)
        if low is None or last is None or match.group(3) is not None and last <= low:
            return None
        pieces.append((match.group(1), low, last + 1))
    return tuple(pieces)


def runs_due(word):
    row = () if word == "-" else row_due(word)
    return row if row is not None and runs_like(row) else None


def name_due(word):
    match = re.fullmatch(f"{FIGURES}[.]{FIGURES}[.]([a-z]{{1,8}})", word)
    if match is None:
        return None
    day, number = number_due(match.group(1), 0, 99999), number_due(match.group(2), 0, 999)
    return None if day is None or number is None else (day, number, match.group(3))


def words_due(office, words):
    """How far the words of a page can stand: (how many, the page or None), by the words of [75]."""
    series = [pair[0] for pair in office[0]]
    places = [place for place in office_places(office) if place != "none"]

    def named(word):
        runs = runs_due(word)
        return runs if runs and all(run[0] in series for run in runs) else None

    def road_end(word):
        return word if (words[2], word) in office[1] else None

    def start(word):
        return word if any(road[0] == word for road in office[1]) else None

    forms = {
        "move": (start, road_end, named),
        "bag": (lambda word: start(word) if word != "none" else None, road_end, lambda word: number_due(word, 1, TOP)),
        "read": (name_due, named), "void": (name_due,),
        "count": (lambda word: word if word in places else None, lambda word: number_due(word, 0, 10 ** 12)),
    }
    form = (name_due, lambda word: word if word in forms else None)
    things = []
    for k, word in enumerate(words):
        if k == 2:
            form += forms[words[1]]
        thing = form[k](word) if k < len(form) else None
        if thing is None:
            return (k, None)
        things.append(thing)
    if len(things) < 2 or len(things) < 2 + len(forms[words[1]]):
        return (len(things), None)
    return (len(things), (things[0], tuple(things[1:])))


def book_due(office, rows):
    """("told", book) or ("refused", row, word)."""
    pages = []
    for row, text in enumerate(rows):
        words = text.split(" ")
        at = name_due(words[0])
        if at is not None and pages and at <= pages[-1][0]:
            return ("refused", row, 0)
        many, page = words_due(office, words)
        if page is None:
            return ("refused", row, many)
        pages.append(page)
    return ("told", tuple(pages))


SPOILT = (
    "", " ", "  ", "-", "--", ",", ":", ".", "a", "a:", ":7", "a:7", "a:07", "a:00", "a:0", "a:-1", "a:7-", "a:7-7",
    "a:7-6", "a:7-8", "a:7-08", "a:7-8-9", "a:7--8", "a:+7", "a:7.0", "a:7,", ",a:7", "a:7,,b:8", "a:7, b:8", "a:7,a:8",
    "a:7,a:9", "a:7,a:7", "a:9,a:7", "b:7,a:7", "a:0-5,a:5-9", "a:0-5,a:6-9", "a:0-5,a:7-9", "A:7", "ab1:7", "a b:7",
    "abcdefgh:7", "abcdefghi:7", "a:999999999", "a:1000000000", "a:0-999999999", "a:0-1000000000", "a:7-999999999",
    "a:999999999-999999999", "a:7:8", "a:x", "a:7x", "a: 7", " a:7", "a:7 ", "a:7 b:8", "a:7  b:8", "7", "7:a", "a:7,-",
    "-,a:7", "- ", " -", "- -", "a:" + "9" * 50, "a:0-" + "9" * 50, "a:" + "9" * 3000, "a;7", "a:7;a:9", "a:1_0",
    "a:1e3",
)


class TextCase(PlainCase):
    def is_read(self, due, function, *things):
        """Due is None where the first word can't stand, else what is read of a text of one word."""
        text = things[-1]
        words = text.split(" ")
        thing = due(words[0])
        if thing is None:
            self.refused(NoText, {"row": 0, "word": 0}, function, *things)
        elif len(words) > 1:
            self.refused(NoText, {"row": 0, "word": 1}, function, *things)
        else:
            self.same(thing, function, *things)


class RunsAndRowsTest(TextCase):
    def test_what_is_written_is_read(self):
        for text, runs in (("-", ()), ("a:7", (("a", 7, 8),)), ("a:0-11", (("a", 0, 12),)),
                           ("a:0-11,a:13,b:5-6", (("a", 0, 12), ("a", 13, 14), ("b", 5, 7))),
                           ("abcdefgh:0-999999999", (("abcdefgh", 0, TOP),))):
            self.same(runs, read_runs, text)
        for text, row in (("a:7", (("a", 7, 8),)), ("b:5-6,a:0-11,a:12", (("b", 5, 7), ("a", 0, 12), ("a", 12, 13))),
                          ("a:1,a:1", (("a", 1, 2), ("a", 1, 2)))):
            self.same(row, read_row_text, text)

    def test_refused(self):
        for text, word in (
            ("", 0), (" ", 0), (" a:7", 0), ("a:7 ", 1), ("a:7  ", 1), ("a:7 b:8", 1), ("a:07", 0), ("a:7-7", 0),
            ("- -", 1),
            ("a:0-5,a:6-9", 0), ("a:7,a:7", 0), ("b:7,a:7", 0), ("x y", 0), ("a:1000000000", 0), ("a:7-08", 0),
        ):
            self.refused(NoText, {"row": 0, "word": word}, read_runs, text)
        for text, word in (("", 0), ("-", 0), ("- ", 0), ("a:7-7", 0), ("a:7-6", 0), ("a:7,", 0), ("a:7 a:8", 1),
                           ("a:07", 0), ("a:0-1000000000", 0)):
            self.refused(NoText, {"row": 0, "word": word}, read_row_text, text)
        # Runs that touch, or are alike, can be pieces of a row.
        self.same((("a", 0, 6), ("a", 6, 10)), read_row_text, "a:0-5,a:6-9")

    def test_spoilt_ones(self):
        for text in SPOILT + tuple(thing for thing in JUNK if type(thing) is str):
            self.is_read(runs_due, read_runs, text)
            self.is_read(row_due, read_row_text, text)

    def test_random_ones(self):
        chance = random.Random(321)
        for _ in range(300):
            some = tuple(random_runs(chance, 6, "abz", 0, 120))
            runs = runs_from(notes_of(some))
            self.same(runs, read_runs, shown_runs(runs))
            if some:
                self.same(some, read_row_text, shown_row(some))
                self.is_read(runs_due, read_runs, shown_row(some))

    def test_signs_changed(self):
        chance = random.Random(322)
        signs = "ab:-,0179 .x"
        for _ in range(3000):
            text = list(chance.choice(("a:7", "a:0-11,b:3", "a:10-20,a:30-40", "ab:5,b:6-10", "-")))
            for _ in range(chance.randint(1, 2)):
                at = chance.randint(0, len(text))
                text[at:at + chance.randint(0, 1)] = [chance.choice(signs)] * chance.randint(0, 1)
            self.is_read(runs_due, read_runs, "".join(text))
            self.is_read(row_due, read_row_text, "".join(text))

    def test_long_texts(self):
        runs = tuple(("abcdefgh", 1000 * at, 1000 * at + 1) for at in range(250))
        self.same(runs, read_runs, shown_runs(runs))
        self.same(runs, read_row_text, shown_row(runs))
        self.refused(NoText, {"row": 0, "word": 0}, read_runs, "a:" + "1" * 5000)
        self.refused(NoText, {"row": 0, "word": 0}, read_runs, "a" * 5000)


class PageTest(PlainCase):
    def due(self, text, office=OFFICE):
        """What is due by the oracle is read or refused."""
        many, page = words_due(office, text.split(" "))
        if page is None:
            self.refused(NoText, {"row": 0, "word": many}, read_page, office, text)
        else:
            self.same(page, read_page, office, text)
        return None if page is not None else many

    def fails(self, word, text, office=OFFICE):
        self.assertEqual(word, self.due(text, office), text)

    def test_what_is_written_is_read(self):
        for text, page in WRITTEN:
            self.same(page, read_page, OFFICE, text)
            self.assertEqual(text, shown_page(page))

    def test_the_name(self):
        for text in ("", " ", "x", "1.0", "1.0.", "1..a", ".0.a", "1.0.a.b", "01.0.a", "1.00.a", "1.0.A",
                     "1.0.abcdefghi",
                     "100000.0.a", "1.1000.a", "-1.0.a", "1,0,a", "1.0.a1", " 1.0.a", "1.0.a,", "move", "+1.0.a",
                     "1" * 5000 + ".0.a"):
            self.fails(0, text + " move none press a:0-4")
            self.fails(0, text)
        self.fails(1, "1.0.a")
        self.fails(1, "99999.999.zzzzzzzz")

    def test_the_deeds_word(self):
        for word in ("", "Move", "moves", "mov", "bags", "reads", "none", "1.0.a", "office", "m"):
            self.fails(1, "1.0.a " + word + " none press a:0-4")
            self.fails(1, "1.0.a " + word)
        self.fails(1, "1.0.a  move none press a:0-4")
        for word in ("move", "bag", "read", "count", "void"):
            self.fails(2, "1.0.a " + word)
            self.fails(2, "1.0.a " + word + " ")

    def test_moves(self):
        for start in ("", "mint", "None", "no", "a:0-4", "presss"):
            self.fails(2, "1.0.a move " + start + " press a:0-4")
        for end in ("", "none", "bank", "post", "mint", "press1", "a:0-4"):
            self.fails(3, "1.0.a move none " + end + " a:0-4")
        for runs in ("", "-", "c:0", "a:0-4,c:0", "a:07", "a:0-4,a:5", "a:7-7", "b:0,a:0", "4", "a", "a:1000000000",
                     "x"):
            self.fails(4, "1.0.a move none press " + runs)
        self.fails(3, "1.0.a move none")
        self.fails(4, "1.0.a move none press")
        for more in (" ", " b:0", "  ", " x y"):
            self.fails(5, "1.0.a move none press a:0-4" + more)
        self.fails(4, "1.0.a move none press  a:0-4")

    def test_a_place_to_which_roads_lead_alone(self):
        office = (WORTHS, (("bank", "post"), ("none", "press"), ("press", "bank")))
        self.fails(2, "1.0.a move post bank a:0", office)
        self.fails(2, "1.0.a bag post bank 4", office)
        self.fails(3, "1.0.a move bank press a:0", office)
        self.same(count(name(1), "post", 4), read_page, office, "1.0.a count post 4")
        # An office without a road from none.
        office = (WORTHS, (("bank", "post"),))
        self.fails(2, "1.0.a move none bank a:0", office)
        self.fails(2, "1.0.a count none 4", office)

    def test_bags(self):
        self.fails(2, "1.0.a bag none press 4")
        self.fails(2, "1.0.a bag mint press 4")
        self.fails(3, "1.0.a bag press none 4")
        self.fails(3, "1.0.a bag press post 4")
        for many in ("", "0", "04", "-1", "1000000001", "a:0-4", "4.0", "9" * 100, "9" * 5000, "x", "+4"):
            self.fails(4, "1.0.a bag press bank " + many)
        self.fails(4, "1.0.a bag press bank")
        self.fails(5, "1.0.a bag press bank 4 ")
        self.fails(5, "1.0.a bag press bank 4 5")
        self.same(bag(name(1), "press", "bank", 1), read_page, OFFICE, "1.0.a bag press bank 1")

    def test_reads(self):
        for other in ("", "2.0", "x", "02.0.a", "2.0.a.", "100000.0.a", "press"):
            self.fails(2, "1.0.a read " + other + " a:0-4")
        for runs in ("", "-", "c:0", "a:0-4,a:5", "a:7-7", "4"):
            self.fails(3, "1.0.a read 2.0.a " + runs)
        self.fails(3, "1.0.a read 2.0.a")
        self.fails(4, "1.0.a read 2.0.a a:0-4 ")
        # Whatever it names: itself, too.
        self.same(read(name(1), name(1)), read_page, OFFICE, "1.0.a read 1.0.a a:0-4")

    def test_counts(self):
        for place in ("", "none", "mint", "Bank", "3"):
            self.fails(2, "1.0.a count " + place + " 3")
        for many in ("", "03", "-1", "1000000000001", "x", "00", "1" * 14, "9" * 5000):
            self.fails(3, "1.0.a count bank " + many)
        self.fails(3, "1.0.a count bank")
        self.fails(4, "1.0.a count bank 3 3")

    def test_voids(self):
        for other in ("", "2.0", "x", "press", "2.0.A"):
            self.fails(2, "1.0.a void " + other)
        self.fails(3, "1.0.a void 2.0.a ")
        self.fails(3, "1.0.a void 2.0.a 3.0.a")

    def test_random_pages(self):
        chance = random.Random(323)
        for _ in range(60):
            office = random_office(chance)
            for page in random_book(chance, 9, office[1]):
                self.same(page, read_page, office, shown_page(page))

    def test_words_changed(self):
        chance = random.Random(324)
        seen = {}
        others = ("", "-", "0", "07", "1000000001", "none", "press", "bank", "mint", "1.0.a", "a:3", "c:3", "move",
                  "bag",
                  "void", "a:3,a:4")
        for _ in range(4000):
            words = chance.choice(WRITTEN)[0].split(" ")
            for _ in range(chance.randint(1, 2)):
                at = chance.randint(0, len(words))
                words[at:at + chance.randint(0, 1)] = [chance.choice(others)] * chance.randint(0, 1)
            word = self.due(" ".join(words))
            seen[word] = seen.get(word, 0) + 1
        self.assertGreater(min(seen.get(word, 0) for word in (None, 0, 1, 2, 3, 4)), 20, seen)


class BookTest(PlainCase):
    def due(self, rows, office=OFFICE):
        due = book_due(office, rows)
        if due[0] == "told":
            self.same(due[1], read_book, office, rows)
        else:
            self.refused(NoText, {"row": due[1], "word": due[2]}, read_book, office, rows)
        return due

    def test_books(self):
        self.same((), read_book, OFFICE, [])
        book = (move(name(1)), bag(name(2)), read(name(3), name(2)), count(name(3, 1)), void(name(10), name(1)))
        self.same(book, read_book, OFFICE, shown_book(book))

    def test_refused(self):
        one, two, three = shown_book((move(name(1)), bag(name(2)), count(name(3))))
        for row, word, rows in (
            (0, 0, [""]), (0, 1, ["1.0.a"]), (1, 0, [one, ""]), (1, 4, [one, "2.0.a bag press bank"]),
            (1, 0, [one, one]), (1, 0, [two, one]), (2, 0, [one, three, two]), (1, 0, [one, "1.0.a"]),
            (2, 4, [one, two, three + " 5"]),
            (0, 5, [one + " x", ""]), (0, 2, ["5.0.a void x", one]), (1, 0, [one, "1.0.a nothing at all"]),
            (1, 0, ["2.1.a void 1.0.a", "2.0.b void 1.0.a"]), (1, 0, ["2.0.b void 1.0.a", "2.0.a void 1.0.a"]),
        ):
            self.assertEqual(("refused", row, word), self.due(rows))

    def test_names_rise_as_numbers(self):
        self.same((void(name(9), name(1)), void(name(10), name(1))), read_book, OFFICE,
                  ["9.0.a void 1.0.a", "10.0.a void 1.0.a"])

    def test_random_books(self):
        chance = random.Random(325)
        for _ in range(100):
            office = random_office(chance)
            book = random_book(chance, 12, office[1])
            self.same(book, read_book, office, shown_book(book))
            rows = shown_book(book)
            if len(rows) > 1:
                chance.shuffle(rows)
                self.due(rows, office)
                at = chance.randrange(len(book))
                rows = shown_book(book)
                rows[at] = rows[at][:chance.randint(0, len(rows[at]) - 1)]
                self.due(rows, office)

    def test_sixty_rows(self):
        book = tuple(void(name(at), name(1)) for at in range(60))
        self.same(book, read_book, OFFICE, shown_book(book))
        self.refused(NoText, {"row": 59, "word": 0}, read_book, OFFICE, shown_book(book)[:59] + ["0.0.a void 0.0.a"])
