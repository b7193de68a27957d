"""A desk: points [85] and [86]."""

import random

from pressnotes.balances import balance
from pressnotes.books import book_of, until
from pressnotes.counts import offs
from pressnotes.desk import Desk
from pressnotes.errors import NoBack, NoLine, NoNumber, NoPage, NoteError, NoWorld
from pressnotes.falsehoods import false_runs
from pressnotes.gaps import unseen
from pressnotes.steps import told_place
from pressnotes.sums import seen, seen_worth
from pressnotes.texts import shown_name, shown_page, shown_runs
from pressnotes.whereabouts import can_be
from tests.support import JUNK, PlainCase, random_office
from tests.test_bags import ALWAYS, true_book
from tests.test_books import bag, count, move, name, random_book, read, void

OFFICE_LINE = "office a:5,b:10 bank>post,none>press,post>bank,press>bank"
BOOK = (
    move(name(1), runs=(("a", 0, 5), ("b", 0, 2))), bag(name(2), many=3), read(name(3), name(2), (("a", 0, 2),)),
    count(name(4), "bank", 3), count(name(5), "bank", 9), move((5, 0, "b"), "bank", "post", (("a", 1, 2),)),
)
LINES = (
    "book", "book 3", "where a:1", "where a:1 4", "where c:7", "seen press", "seen press 1", "worth press",
    "worth press 1",
    "balance press", "balance press 1", "offs bank", "offs bank 4", "off bank", "false", "unseen", "can a:1", "can a:3",
    "told", "then 0", "then 6", "back", "tell 9.0.a void 1.0.a", OFFICE_LINE,
)


class DeskCase(PlainCase):
    def desk(self, pages=(), line=OFFICE_LINE):
        made = Desk()
        self.assertEqual("ok", made.say(line))
        for page in pages:
            self.assertEqual("new", made.say("tell " + shown_page(page)))
        return made

    def says(self, text, desk, line):
        """The text is answered, and again; of a line that changes nothing."""
        self.same(text, desk.say, line)

    def book_of_desk(self, desk):
        """What the desk has as its book, None while it has no ledger."""
        try:
            return desk.say("book")
        except NoLine:
            return None

    def is_none(self, desk, line):
        """The line is refused with NoLine of itself, and nothing is changed."""
        before = self.book_of_desk(desk)
        self.refused(NoLine, {"line": line}, desk.say, line)
        self.assertEqual(before, self.book_of_desk(desk))

    def refuses(self, error, fields, desk, line):
        before = desk.say("book")
        self.refused(error, fields, desk.say, line)
        self.assertEqual(before, desk.say("book"))


class OfficeTest(DeskCase):
    def test_without_a_ledger_there_is_office_alone(self):
        desk = Desk()
        for line in LINES[:-1] + ("", " ", "nothing", "office", "tell", "book x"):
            self.is_none(desk, line)
        self.assertEqual("ok", desk.say(OFFICE_LINE))
        self.says("-", desk, "book")

    def test_offices(self):
        for line in (
            "office a:5,b:10 none>press,press>bank", "office a:1 none>press", "office abcdefgh:1000000 x>y",
            "office a:5,b:5,c:5,d:5 none>press", "office none:7 bank>post",
            "office a:1 " + ",".join(sorted("none>" + place for place in "bcdefghi")),
            "office a:1 " + ",".join(sorted(f"{one}>{other}" for one in "bcde" for other in "bcdef" if one != other)),
        ):
            desk = Desk()
            self.assertEqual("ok", desk.say(line))
            self.says("0", desk, "told")

    def test_lines_that_are_no_offices(self):
        many = ",".join(sorted(f"{one}>{other}" for one in "bcde" for other in "bcdefg" if one != other)[:17])
        for rest in (
            "", "a:5", "a:5 ", " none>press", "a:5  none>press", "a:5 none>press ", " a:5 none>press",
            "a:5 none>press x",
            "none>press a:5", "a none>press", "a: none>press", ":5 none>press", "a:0 none>press", "a:05 none>press",
            "a:1000001 none>press", "a:-5 none>press", "A:5 none>press", "a:5, none>press", ",a:5 none>press",
            "a:5,a:6 none>press", "a:5,a:5 none>press", "b:5,a:5 none>press", "a:5;b:6 none>press", "a:5:6 none>press",
            "a:1,b:1,c:1,d:1,e:1 none>press", "abcdefghi:5 none>press", "a:5 press", "a:5 >press", "a:5 none>",
            "a:5 none>press>bank", "a:5 press>none", "a:5 press>press", "a:5 none>press,none>press", "a:5 -",
            "- none>press",
            "a:5 press>bank,none>press", "a:5 none>press,", "a:5 none>Press", "a:5 none-press", "a:5 none>abcdefghi",
            "a:5 " + ",".join(sorted("none>" + place for place in "bcdefghij")), "a:5 " + many,
            "a:" + "9" * 5000 + " none>press",
        ):
            line = "office " + rest
            self.is_none(Desk(), line)
            desk = self.desk(BOOK)
            self.is_none(desk, line)
            self.says("6", desk, "told")
        self.is_none(Desk(), "office")
        self.is_none(Desk(), "Office a:5 none>press")

    def test_a_new_ledger(self):
        desk = self.desk(BOOK)
        self.assertEqual("ok", desk.say("office c:7 none>vault"))
        self.says("-", desk, "book")
        self.says("0", desk, "told")
        self.assertEqual("new", desk.say("tell 1.0.a move none vault c:3"))
        self.says("7", desk, "worth vault")
        self.is_none(desk, "seen bank")
        # The same office once more is a new ledger, too.
        self.assertEqual("ok", desk.say("office c:7 none>vault"))
        self.says("-", desk, "book")

    def test_two_desks_have_nothing_in_common(self):
        one, other = self.desk(BOOK), self.desk()
        self.says("0", other, "told")
        self.says("6", one, "told")


class TellTest(DeskCase):
    def test_tell_and_back(self):
        desk = self.desk()
        self.assertEqual("new", desk.say("tell 2.0.b bag press bank 3"))
        self.assertEqual("new", desk.say("tell 1.0.a move none press a:0-4"))
        self.assertEqual("again", desk.say("tell 2.0.b bag press bank 3"))
        self.says("2", desk, "told")
        self.says("1.0.a move none press a:0-4; 2.0.b bag press bank 3", desk, "book")
        self.says("-", desk, "then 0")
        self.says("2.0.b bag press bank 3", desk, "then 1")
        self.says("1.0.a move none press a:0-4; 2.0.b bag press bank 3", desk, "then 2")
        self.assertEqual("1.0.a", desk.say("back"))
        self.assertEqual("2.0.b", desk.say("back"))
        self.says("0", desk, "told")
        self.refuses(NoBack, {}, desk, "back")
        self.refuses(NoBack, {}, desk, "back")

    def test_refusals_of_the_ledger(self):
        desk = self.desk(BOOK)
        self.refuses(NoPage, {"word": "other", "name": name(2)}, desk, "tell 2.0.a bag press bank 4")
        self.refuses(NoPage, {"word": "other", "name": (5, 0, "b")}, desk, "tell 5.0.b void 1.0.a")
        for k in (7, 8, 999):
            self.refuses(NoNumber, {"number": k}, desk, f"then {k}")
        self.says("6", desk, "told")

    def test_lines_that_tell_no_page(self):
        desk = self.desk(BOOK)
        for rest in (
            "", " ", "1.0.a", "9.0.a move", "9.0.a move none bank a:0", "9.0.a move none press c:0",
            "9.0.a move none press -",
            "9.0.a move none press a:00", "9.0.a  move none press a:0", " 9.0.a move none press a:0",
            "9.0.a move none press a:0 ", "9.0.a bag none press 4", "9.0.a bag press bank 0", "9.0.a count none 3",
            "9.0.a read 2.0 a:0", "9.0.a void", "x", "100000.0.a void 1.0.a", "2.0.a bag press mint 3",
        ):
            self.is_none(desk, "tell " + rest)
        self.is_none(desk, "tell")
        self.is_none(desk, "tells 9.0.a void 1.0.a")

    def test_all_deeds(self):
        desk = self.desk(BOOK + (void(name(6), name(1)),))
        texts = ("1.0.a move none press a:0-4,b:0-1; 2.0.a bag press bank 3; 3.0.a read 2.0.a a:0-1; "
                 "4.0.a count bank 3; 5.0.a count bank 9; 5.0.b move bank post a:1; 6.0.a void 1.0.a")
        self.says(texts, desk, "book")


class AskTest(DeskCase):
    def test_books_and_days(self):
        desk = self.desk(BOOK)
        self.says("1.0.a move none press a:0-4,b:0-1", desk, "book 1")
        self.says("-", desk, "book 0")
        self.assertEqual(desk.say("book"), desk.say("book 99999"))
        self.says("1.0.a move none press a:0-4,b:0-1; 2.0.a bag press bank 3", desk, "book 2")

    def test_where(self):
        desk = self.desk(BOOK)
        for line, text in (
            ("where a:1", "post"), ("where a:1 4", "bank"), ("where a:1 2", "press"), ("where a:1 0", "none"),
            ("where a:9", "none"), ("where c:7", "none"), ("where zzzzzzzz:999999999 3", "none"),
            ("where b:1", "press"),
        ):
            self.says(text, desk, line)

    def test_seen_and_worth(self):
        desk = self.desk(BOOK)
        for line, text in (
            ("seen press", "a:2-4,b:0-1"), ("seen press 1", "a:0-4,b:0-1"), ("seen bank", "a:0"), ("seen bank 2", "-"),
            ("seen post", "a:1"), ("seen post 4", "-"), ("worth press", "35"), ("worth press 1", "45"),
            ("worth post", "5"),
            ("worth bank 2", "0"),
        ):
            self.says(text, desk, line)

    def test_balances(self):
        desk = self.desk(BOOK)
        for line, text in (
            ("balance press", "4"), ("balance press 1", "7"), ("balance bank", "2"), ("balance bank 4", "3"),
            ("balance post", "1"), ("balance post 0", "0"),
        ):
            self.says(text, desk, line)
        desk = self.desk((bag(name(1), "press", "bank", 1000000000),))
        self.says("-1000000000", desk, "balance press")
        self.says("0", desk, "balance press 0")

    def test_counts(self):
        desk = self.desk(BOOK)
        self.says("4.0.a 0; 5.0.a 6", desk, "offs bank")
        self.says("4.0.a 0", desk, "offs bank 4")
        self.says("-", desk, "offs bank 3")
        self.says("-", desk, "offs press")
        self.says("4.0.a 5.0.a", desk, "off bank")
        self.says("none", desk, "off press")
        desk = self.desk((move(name(1)), count((2, 0, "b"), "press", 1)))
        self.says("2.0.b -4", desk, "offs press")
        self.says("- 2.0.b", desk, "off press")

    def test_false_and_unseen(self):
        desk = self.desk(BOOK)
        self.says("-", desk, "false")
        self.says("0", desk, "unseen")
        desk = self.desk(BOOK + (move((5, 1, "a"), "bank", "post", (("b", 1, 2),)),))
        self.says("1", desk, "unseen")
        desk = self.desk(BOOK + (move(name(9), runs=(("a", 3, 7), ("b", 1, 5))),))
        self.says("a:3-4,b:1", desk, "false")
        self.refuses(NoWorld, {"word": "false"}, desk, "unseen")
        self.refuses(NoWorld, {"word": "false"}, desk, "can a:0")

    def test_can(self):
        desk = self.desk(BOOK)
        for line, text in (
            ("can a:0", "at bank; at post"), ("can a:1", "at bank; at post"), ("can c:7", "at none"),
            ("can a:9", "at none"),
            ("can a:3", "bag 2.0.a; at bank; at post; at press"),
        ):
            self.says(text, desk, line)
        desk = self.desk((move(name(1), runs=(("a", 0, 4),)), bag(name(2), many=3), bag((2, 0, "b"), many=1)))
        self.says("bag 2.0.a; bag 2.0.b", desk, "can a:0")
        desk = self.desk((move(name(1)), bag(name(2), many=9)))
        self.refuses(NoWorld, {"word": "short"}, desk, "can a:0")
        desk = self.desk((move(name(1)), bag(name(2), many=1), read(name(3), name(2), (("a", 0, 2),))))
        self.refuses(NoWorld, {"word": "over"}, desk, "can a:0")

    def test_none_where_it_is_a_place(self):
        desk = self.desk(BOOK)
        for word in ("seen", "worth", "balance", "offs", "off"):
            self.is_none(desk, word + " none")
            self.is_none(desk, word + " mint")
            self.is_none(desk, word)
            self.is_none(desk, word + " ")

    def test_lines_that_are_none(self):
        desk = self.desk(BOOK)
        for line in (
            "", " ", "Book", "book ", " book", "books", "book x", "book -1", "book 03", "book 100000", "book 3 4",
            "book  3",
            "book 3 ", "told 3", "told ", "back 1", "back ", "then", "then ", "then x", "then -1", "then 00",
            "then 1000",
            "then 1 2", "then 6 3", "where", "where ", "where a", "where a:", "where a:07", "where a:1000000000",
            "where A:7", "where a:0-1", "where -", "where a:1,a:2", "where a:1 x", "where a:1 03", "where a:1 100000",
            "where a:1 2 3", "where abcdefghi:1", "where a:1  4", "seen press x", "seen press -1", "seen press 1 1",
            "seen 1", "worth press 100000", "balance press 01", "offs bank x", "off bank 4", "off bank ",
            "off bank bank",
            "false 3", "false ", "false a:1", "unseen 3", "unseen ", "can", "can ", "can a:1 3", "can a", "can a:01",
            "can a:1 ", "count bank", "none", "-", "offices a:5 none>press", "seen PRESS", "where a:1 " + "9" * 5000,
            "then " + "9" * 5000, "book\n", "told\n", "book; book",
        ):
            self.is_none(desk, line)

    def test_any_text(self):
        desk = self.desk(BOOK)
        for line in JUNK:
            if type(line) is str:
                self.is_none(desk, line)
        chance = random.Random(351)
        words = ("book", "where", "seen", "tell", "then", "a:1", "press", "none", "3", "", "office", "off", "can",
                 "told")
        pieces = {"book", "book 3", "told", "then 3", "seen press", "seen press 3", "where a:1", "where a:1 3",
                  "can a:1",
                  "off press"}
        for _ in range(2000):
            line = " ".join(chance.choice(words) for _ in range(chance.randint(1, 4)))
            if line in pieces:
                desk.say(line)
            else:
                self.is_none(desk, line)

    def test_none_of_these_goes_ahead(self):
        # A line that is none is refused as such, though what it asks would be refused, too.
        desk = self.desk((move(name(1)), move(name(2))))
        self.refuses(NoWorld, {"word": "false"}, desk, "unseen")
        self.is_none(desk, "unseen 3")
        self.is_none(desk, "can x")
        self.is_none(desk, "tell 1.0.a move none press c:0")
        desk = self.desk()
        self.is_none(desk, "back 1")
        self.is_none(desk, "then 1000")

    def test_all_but_office_tell_and_back_change_nothing(self):
        desk = self.desk(BOOK)
        texts = [desk.say(line) for line in LINES[:-3]]
        for _ in range(3):
            self.assertEqual(texts, [desk.say(line) for line in LINES[:-3]])
        for line in ("", "book x", "then 900", "tell 1.0.a void 1.0.a", "office x"):
            with self.assertRaises(NoteError):
                desk.say(line)
        self.assertEqual(texts, [desk.say(line) for line in LINES[:-3]])
        self.assertEqual("5.0.b", desk.say("back"))


class RandomTest(DeskCase):
    def asked(self, desk, line, function):
        """The desk answers what the function tells, or refuses as it does."""
        try:
            due = function()
        except NoWorld as refusal:
            self.refuses(NoWorld, {"word": refusal.word}, desk, line)
            return
        self.says(due, desk, line)

    def compare(self, chance, desk, office, book):
        for day in [None] + chance.sample(range(8), 2):
            part = book if day is None else until(book, day)
            tail = "" if day is None else f" {day}"
            self.says("; ".join(shown_page(page) for page in part) or "-", desk, "book" + tail)
            for place in [place for road in office[1] for place in road if place != "none"]:
                self.says(shown_runs(seen(part, place)), desk, f"seen {place}{tail}")
                self.says(str(seen_worth(office, part, place)), desk, f"worth {place}{tail}")
                self.says(str(balance(part, place)), desk, f"balance {place}{tail}")
                due = "; ".join(f"{shown_name(at)} {off}" for at, off in offs(part, place))
                self.says(due or "-", desk, f"offs {place}{tail}")
            for note in (("a", 0), ("a", 3), ("b", 1), ("c", 0)):
                self.says(told_place(part, note), desk, f"where {note[0]}:{note[1]}{tail}")
        self.says(shown_runs(false_runs(office, book)), desk, "false")
        self.asked(desk, "unseen", lambda: str(unseen(office, book)))
        for note in (("a", 0), ("a", 3), ("b", 1)):
            self.asked(desk, f"can {note[0]}:{note[1]}", lambda: self.answers(office, book, note))

    def answers(self, office, book, note):
        texts = {"bag": shown_name, "at": str}
        return "; ".join(word + " " + texts[word](what) for word, what in can_be(office, book, note))

    def test_random_books(self):
        chance = random.Random(352)
        for at in range(60):
            office = random_office(chance, most=4, always=ALWAYS)
            book = random_book(chance, 9, office[1]) if at % 3 == 0 else true_book(chance, office, 12)
            line = "office " + ",".join(f"{series}:{worth}" for series, worth in office[0])
            desk = self.desk((), line + " " + ",".join(f"{one}>{other}" for one, other in office[1]))
            pages = list(book)
            chance.shuffle(pages)
            for page in pages:
                self.assertEqual("new", desk.say("tell " + shown_page(page)))
            self.says(str(len(pages)), desk, "told")
            for k in range(len(pages) + 1):
                due = "; ".join(shown_page(page) for page in book_of(pages[:k]))
                self.says(due or "-", desk, f"then {k}")
            self.compare(chance, desk, office, book)
