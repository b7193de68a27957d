"""The whole: points [7] and [8], and those told over several modules: [34], [37], [47], [78], [82]."""

import random

from pressnotes.bags import can_lie, supplies, supply_of, unread
from pressnotes.balances import balance, by_days, moved
from pressnotes.between import between, between_paper, lets_between
from pressnotes.books import book_of, counted, joined, until, voided, waiting
from pressnotes.bundles import bundle_row, laid, many_bundles, number_for, seat_in, star_for
from pressnotes.counts import first_off, lets_offs, off_paper, offs
from pressnotes.desk import Desk
from pressnotes.errors import NoteError, NoWorld
from pressnotes.falsechecker import lets_false
from pressnotes.falsehoods import false_paper, false_runs
from pressnotes.fillchecker import lets_filling, lets_short
from pressnotes.filling import filled
from pressnotes.gaps import gaps, unseen
from pressnotes.lasts import last_pages, made
from pressnotes.ledger import Ledger
from pressnotes.manychecker import lets_least, lets_most
from pressnotes.manyin import least_in, most_in
from pressnotes.naming import moved_days, renamed, renamed_book
from pressnotes.pricechecker import lets_cost, lets_prices
from pressnotes.prices import fewest
from pressnotes.printings import number_at, printed, seat_of
from pressnotes.reach import far, reach
from pressnotes.readings import read_book
from pressnotes.rows import row_runs
from pressnotes.runs import kth, many_in
from pressnotes.sets import both, is_within, less
from pressnotes.stacks import stack_at, stack_place
from pressnotes.steps import seals, steps, told_place
from pressnotes.sums import seen, seen_sums, seen_worth
from pressnotes.texts import shown_book, shown_page
from pressnotes.whereabouts import can_be, where_paper
from pressnotes.wherechecker import lets_where
from pressnotes.worthchecker import lets_worth
from pressnotes.worths import worth_between, worth_papers
from tests.support import PlainCase, distances, notes_of, office_places, random_office, random_runs, runs_from
from tests.test_bags import ALWAYS, SOME_NOTES, all_answers, bags_due, supplies_due, true_book
from tests.test_books import move, name, random_book, void
from tests.test_manyin import numbers_due, sums_due
from tests.test_naming import later, later_book, turned_book, turned_name, turned_notes, turned_office
from tests.test_offices import OFFICE
from tests.test_steps import ALL_NOTES, steps_due
from tests.test_whereabouts import answers_due


def some_book(chance, office, at):
    """A book of an office, by turns one that may tell anything and one by which no note is false."""
    return random_book(chance, 10, office[1]) if at % 2 else true_book(chance, office, 12)


def told_or_refused(function, *things):
    """What is told, or the word of the refusal."""
    try:
        return ("told", function(*things))
    except NoWorld as refusal:
        return ("refused", refusal.word)


class TellingTest(PlainCase):
    """Whatever the order of telling, however late, twice or by another book."""

    def told_pages(self, chance, book):
        pages = [page for page in book for _ in range(chance.randint(1, 2))]
        chance.shuffle(pages)
        return pages

    def test_what_is_told_is_told_of_the_set_of_pages(self):
        chance = random.Random(361)
        for at in range(80):
            office = random_office(chance, most=4, always=ALWAYS)
            book = some_book(chance, office, at)
            pages = self.told_pages(chance, book)
            self.same(book, book_of, pages)
            one, other, third = Ledger(office), Ledger(office), Ledger(office)
            for page in pages:
                one.tell(page)
                chance.choice((other, third)).tell(page)
            self.assertEqual(book, one.book())
            # Told by other books, whichever takes in which.
            self.assertEqual(joined(other.book(), third.book()), book)
            other.take_in(third)
            third.take_in(other)
            self.assertEqual((book, book), (other.book(), third.book()))
            self.same(book, read_book, office, shown_book(book))

    def test_by_any_day_it_comes_of_the_pages_up_to_then(self):
        chance = random.Random(362)
        for at in range(60):
            office = random_office(chance, most=4, always=ALWAYS)
            book = some_book(chance, office, at)
            ledger = Ledger(office)
            for page in self.told_pages(chance, book):
                ledger.tell(page)
            for day in (0, 2, 5, 99999):
                early = book_of([page for page in book if page[0][0] <= day])
                part = until(ledger.book(), day)
                self.assertEqual(early, part)
                for place in office_places(office):
                    self.assertEqual(seen(early, place), seen(part, place))
                    self.assertEqual(balance(early, place), balance(part, place))

    def test_what_was_told_then_is_told_still(self):
        # Behind some tellings, by a day or both: whatever was told later.
        chance = random.Random(363)
        for at in range(40):
            office = random_office(chance, most=4, always=ALWAYS)
            pages = list(some_book(chance, office, at))
            chance.shuffle(pages)
            ledger = Ledger(office)
            desk = Desk()
            desk.say("office a:5,b:10 " + ",".join(f"{one}>{other}" for one, other in office[1]))
            told = []
            for page in [None] + pages:
                if page is not None:
                    ledger.tell(page)
                    desk.say("tell " + shown_page(page))
                told.append([ledger.book(), desk.say("book")] + [until(ledger.book(), day) for day in range(7)])
            for k, (book, text, *parts) in enumerate(told):
                self.assertEqual(book, ledger.then(k))
                self.assertEqual(text, desk.say(f"then {k}"))
                self.assertEqual(parts, [until(ledger.then(k), day) for day in range(7)])
            # Taken back, all is as it was.
            for k in range(len(pages), 0, -1):
                self.assertEqual(told[k][:2], [ledger.book(), desk.say("book")])
                ledger.back()
                desk.say("back")
            self.assertEqual((), ledger.book())


class PlacesTest(PlainCase):
    def test_each_note_is_told_at_one_place(self):
        chance = random.Random(364)
        for at in range(60):
            office = random_office(chance, most=6)
            whole = some_book(chance, office, at)
            for book in (whole, until(whole, 2), until(whole, 4)):
                places = office_places(office)
                self.assertEqual((), seen(book, "none"))
                self.assertEqual(many_in(made(book)), sum(many_in(seen(book, place)) for place in places))
                for k, one in enumerate(places):
                    self.assertTrue(is_within(seen(book, one), made(book)))
                    for other in places[:k]:
                        self.assertEqual((), both(seen(book, one), seen(book, other)))
                for note in chance.sample(ALL_NOTES, 6):
                    here = [place for place in places if note in notes_of(seen(book, place))]
                    self.assertEqual([told_place(book, note)] if steps(book, note) else [], here)

    def test_balances_are_what_is_seen_and_gaps(self):
        # By [37]: bags' notes that no step tells, and gaps, make the rest.
        chance = random.Random(365)
        for at in range(120):
            office = random_office(chance, most=6)
            book = some_book(chance, office, at)
            bags = bags_due(book)
            told = [step[0] for note in ALL_NOTES for step in steps_due(book, note)]
            left = {when: deed[3] - told.count(when) for when, deed in bags.items()}
            for place in office_places(office):
                due = many_in(seen(book, place))
                due += sum(left[when] for when in bags if bags[when][2] == place)
                due -= sum(left[when] for when in bags if bags[when][1] == place)
                due += sum(many for one, other, many in gaps(book) if one == place)
                due -= sum(many for one, other, many in gaps(book) if other == place)
                if place == "none":
                    due -= many_in(made(book))
                self.assertEqual(due, balance(book, place), (book, place))


class SeatsTest(PlainCase):
    def test_each_number_of_a_printing_has_one_seat(self):
        chance = random.Random(366)
        for _ in range(40):
            order = tuple(chance.sample(("sheet", "row", "column"), 3))
            printing = ("a", chance.randint(0, 50), chance.randint(1, 4), chance.randint(1, 4), chance.randint(1, 5),
                        order)
            series, low, high = printed(printing)
            seats = [seat_of(printing, number) for number in range(low, high)]
            self.assertEqual(high - low, len(set(seats)))
            self.assertEqual(high - low, printing[2] * printing[3] * printing[4])
            self.assertEqual(list(range(low, high)), [number_at(printing, *seat) for seat in seats])
            for way in ("rows", "columns"):
                places = [stack_place(printing, way, number) for number in range(low, high)]
                self.assertEqual(list(range(high - low)), sorted(places))
                self.assertEqual(list(range(low, high)), [stack_at(printing, way, k) for k in places])

    def test_each_number_of_bundles_has_one_place_or_one_note_in_its_stead(self):
        chance = random.Random(367)
        for _ in range(40):
            run = ("a", 5, 5 + chance.randint(1, 30))
            spoilt = runs_from(notes_of(random_runs(chance, 4, "a", 0, 36)))
            bundling = laid(run, chance.randint(1, 8), spoilt, ("s", 3, 60))
            found = []
            for number in range(run[1], run[2]):
                star = star_for(bundling, number)
                note = star if star is not None else ("a", number)
                if star is not None:
                    self.assertEqual(number, number_for(bundling, star))
                k, place = seat_in(bundling, note)
                self.assertEqual(note, kth(bundle_row(bundling, k), place))
                found.append((k, place))
            self.assertEqual(sorted(set(found)), found)
            rows = [bundle_row(bundling, k) for k in range(many_bundles(bundling))]
            self.assertEqual(len(found), sum(many_in(row_runs(row)) for row in rows))


class FalseTest(PlainCase):
    def test_false_just_where_a_paper_shows_it_and_for_good(self):
        chance = random.Random(368)
        stays = 0
        for at in range(150):
            office = random_office(chance, most=6)
            book = random_book(chance, 9, office[1])
            more = tuple(page for page in random_book(chance, 9, office[1]) if page[1][0] != "void")
            more = tuple(page for page in more if page[0] not in dict(book))
            # Pages told more, but voids; those of the book stay what they are.
            grown = joined(book, more)
            false = false_runs(office, book)
            for note in ALL_NOTES:
                paper = false_paper(office, book, note)
                self.assertEqual(note in notes_of(false), paper is not None)
                if paper is not None:
                    self.same(True, lets_false, office, book, note, paper)
                    self.same(True, lets_false, office, grown, note, paper)
            self.assertTrue(is_within(false, false_runs(office, grown)))
            stays += len(false) > 0 and len(more) > 0
        self.assertGreater(stays, 40)

    def test_a_number_made_twice_is_false(self):
        chance = random.Random(369)
        for at in range(80):
            office = random_office(chance, most=6, always=(("none", "bank"), ("none", "press")))
            book = random_book(chance, 6, office[1])
            ends = chance.choice((("press", "press"), ("press", "bank"), ("bank", "press")))
            one = move((7, 0, "a"), "none", ends[0], (("a", 0, 5),))
            other = move((7, 0, "b"), "none", ends[1], (("a", 3, 9),))
            twice = book_of(book + (one, other))
            self.assertTrue(is_within((("a", 3, 5),), false_runs(office, twice)))
            # A void ends it.
            healed = book_of(twice + (void((8, 0, "a"), (7, 0, "a")),))
            self.assertEqual(false_runs(office, book_of(book + (other,))), false_runs(office, healed))


class MissingTest(PlainCase):
    def test_all_is_told_with_papers_no_more_and_no_fewer(self):
        chance = random.Random(370)
        told = 0
        for _ in range(120):
            office = random_office(chance, most=4, always=ALWAYS)
            book = true_book(chance, office, 12)
            word, thing = filled(office, book)
            if word == "short":
                self.same(True, lets_short, office, book, thing)
                continue
            told += 1
            self.same(True, lets_filling, office, book, thing)
            note = chance.choice(SOME_NOTES)
            due = answers_due(office, book, note)
            self.same(due, can_be, office, book, note)
            for answer in all_answers(office, book):
                truth, paper = where_paper(office, book, note, answer)
                self.assertIs(answer in due, truth)
                self.same(truth, lets_where, office, book, note, answer, paper)
            self.many_and_worths(chance, office, book)
            self.moves(office, book)
        self.assertGreater(told, 60)

    def many_and_worths(self, chance, office, book):
        runs = runs_from(chance.sample(SOME_NOTES, 4))
        for at in bags_due(book):
            due = numbers_due(office, book, runs, at)
            least, most = least_in(office, book, runs, at), most_in(office, book, runs, at)
            self.assertEqual((due[0], due[-1]), (least[0], most[0]))
            self.same(due[0], lets_least, office, book, runs, at, least[1])
            self.same(due[-1], lets_most, office, book, runs, at, most[1])
        worths = dict(office[0])
        due = sums_due(office, book, lambda note, choice: worths[note[0]])
        self.same((due[0], due[-1]), worth_between, office, book)
        least, most = worth_papers(office, book)
        self.same(due[0], lets_worth, office, book, "least", least)
        self.same(due[-1], lets_worth, office, book, "most", most)

    def moves(self, office, book):
        """The fewest unseen moves of any world: between steps, and into the bags."""
        length = distances(office)
        bags = bags_due(book)
        ways = sums_due(office, book, lambda note, at: length[steps_due(book, note)[-1][2], bags[at][1]])
        cost, rows, prices = fewest(office, book)
        self.assertEqual(ways[0], cost)
        self.same(cost, lets_cost, office, book, rows)
        self.same(cost, lets_prices, office, book, prices)
        between_steps = 0
        for note in ALL_NOTES:
            places = ["none"] + [step[2] for step in steps_due(book, note)]
            between_steps += sum(length[place, step[1]] for place, step in zip(places, steps_due(book, note)))
        self.assertEqual(between_steps, unseen(office, book))


class Turn:
    """What is told, turned by words and moved by days."""

    def __init__(self, words, days=0):
        self.words, self.days = words, days

    def office(self, office):
        return turned_office(office, self.words)

    def book(self, book):
        return later_book(turned_book(book, self.words), self.days)

    def name(self, at):
        return None if at is None else later(turned_name(at, self.words), self.days)

    def names(self, names):
        return tuple(sorted(self.name(at) for at in names))

    def place(self, place):
        return None if place is None else self.words[1].get(place, place)

    def set(self, places):
        return tuple(sorted(self.place(place) for place in places))

    def note(self, note):
        return turned_notes([note], self.words)[0]

    def runs(self, runs):
        return runs_from(turned_notes(notes_of(runs), self.words))

    def steps(self, told):
        return tuple((self.name(moment), self.place(one), self.place(other), self.name(at))
                     for moment, one, other, at in told)

    def pairs(self, pairs):
        """Pairs that begin with a name."""
        return tuple((self.name(at), many) for at, many in pairs)

    def rows(self, rows):
        """Rows that begin with two names."""
        return tuple(sorted((self.name(row[0]), self.name(row[1])) + row[2:] for row in rows))

    def series_rows(self, rows):
        return tuple(sorted(row[:2] + (self.words[0].get(row[2], row[2]),) + row[3:] for row in self.rows(rows)))

    def answer(self, answer):
        word, what = answer
        return (word, self.name(what) if word == "bag" else self.place(what))

    def answers(self, answers):
        found = [self.answer(answer) for answer in answers]
        return sorted([answer for answer in found if answer[0] == "bag"]) + sorted(
            [answer for answer in found if answer[0] == "at"])

    def where(self, paper):
        if paper[0] in ("in", "free"):
            return (paper[0], self.rows(paper[1])) + tuple(tuple(map(self.place, way)) for way in paper[2:])
        if paper[0] == "cut":
            return ("cut", self.set(paper[1]))
        return ("tight", self.names(paper[1])) if paper[0] == "tight" else paper

    def false(self, paper):
        if paper[0] == "road":
            return ("road", self.name(paper[1]), self.name(paper[2]), self.set(paper[3]))
        return (paper[0],) + tuple(self.name(at) for at in paper[1:])

    def between(self, paper):
        if paper[0] == "at":
            return ("at",) + tuple(tuple(map(self.place, row)) for row in paper[1:])
        return (paper[0], self.set(paper[1]))

    def many(self, paper):
        return (self.rows(paper[0]), None if paper[1] is None else self.names(paper[1]))

    def worth(self, paper):
        return (self.series_rows(paper[0]), tuple(self.names(names) for names in paper[1]))


TURNS = (
    Turn(({"a": "z", "b": "y"}, {"press": "xpress", "bank": "abank"}, {"a": "c", "b": "d"})),
    Turn(({"a": "b", "b": "a"}, {"press": "bank", "bank": "post", "post": "press"}, {})),
    Turn(({"a": "q"}, {"mint": "aaa", "post": "mint"}, {"b": "zz"})),
    Turn(({}, {}, {}), 1), Turn(({}, {}, {}), 99990),
    Turn(({"b": "none"}, {"post": "a"}, {"a": "none", "b": "nooo"}), 17),
)


class TurnedTest(PlainCase):
    """By [82] all that is told of an office and book so turned is what was told, so turned."""

    def turned(self, turn, office, book):
        self.assertEqual(turn.office(office), renamed(office, turn.words))
        self.assertEqual(turn.book(book), moved_days(renamed_book(book, turn.words), turn.days))
        return renamed(office, turn.words), moved_days(renamed_book(book, turn.words), turn.days)

    def test_offices_and_books(self):
        chance = random.Random(371)
        for at in range(60):
            office = random_office(chance, most=6)
            book = some_book(chance, office, at)
            for turn in TURNS:
                office_so, book_so = self.turned(turn, office, book)
                for function in (counted, waiting, voided):
                    self.assertEqual(turn.names(function(book)), function(book_so))
                for day in (0, 3, 5):
                    self.assertEqual(turn.book(until(book, day)), until(book_so, day + turn.days))
                self.assertEqual(turn.runs(made(book)), made(book_so))
                self.assertEqual(tuple((turn.name(at), turn.runs(runs)) for at, runs in last_pages(book)),
                                 last_pages(book_so))
                due = sorted((turn.place(one), turn.place(other), many) for one, other, many in gaps(book))
                self.assertEqual(tuple(due), gaps(book_so))
                self.assertEqual(turn.pairs(unread(book)), unread(book_so))
                self.assertEqual(turn.runs(false_runs(office, book)), false_runs(office_so, book_so))
                self.assertEqual(told_or_refused(unseen, office, book), told_or_refused(unseen, office_so, book_so))
                self.of_places(turn, office, book, office_so, book_so)

    def of_places(self, turn, office, book, office_so, book_so):
        for place in office_places(office):
            there = turn.place(place)
            self.assertEqual(turn.runs(seen(book, place)), seen(book_so, there))
            self.assertEqual(dict(seen_sums(office, book, place)), {
                series: dict(seen_sums(office_so, book_so, there))[turn.words[0].get(series, series)]
                for series, worth in office[0]})
            self.assertEqual(seen_worth(office, book, place), seen_worth(office_so, book_so, there))
            self.assertEqual(balance(book, place), balance(book_so, there))
            self.assertEqual(moved(book, place, "a"), moved(book_so, there, turn.words[0].get("a", "a")))
            self.assertEqual([(day + turn.days, many) for day, many in by_days(book, place)], by_days(book_so, there))
            self.assertEqual(turn.set(reach(office, place)), reach(office_so, there))
            for other in office_places(office):
                self.assertEqual(far(office, place, other), far(office_so, there, turn.place(other)))
            self.assertEqual(list(turn.pairs(offs(book, place))), offs(book_so, there))
            pair = first_off(book, place)
            self.assertEqual(None if pair is None else tuple(turn.name(at) for at in pair), first_off(book_so, there))
            if pair is not None:
                paper = off_paper(book, place, *pair)
                self.assertEqual(turn.pairs(paper), off_paper(book_so, there, *[turn.name(at) for at in pair]))
                self.assertEqual(lets_offs(book, place, *pair, paper),
                                 lets_offs(book_so, there, *[turn.name(at) for at in pair], turn.pairs(paper)))

    def test_notes(self):
        chance = random.Random(372)
        for at in range(50):
            office = random_office(chance, most=6)
            book = some_book(chance, office, at)
            turn = chance.choice(TURNS)
            office_so, book_so = self.turned(turn, office, book)
            for note in chance.sample(ALL_NOTES[:28], 6):
                that = turn.note(note)
                self.assertEqual(turn.steps(steps(book, note)), steps(book_so, that))
                self.assertEqual(tuple(turn.names(pair) if pair[0] < pair[1] else tuple(map(turn.name, pair))
                                       for pair in seals(book, note)), seals(book_so, that))
                self.assertEqual(turn.place(told_place(book, note)), told_place(book_so, that))
                self.assertEqual(turn.name(supply_of(book, note)), supply_of(book_so, that))
                paper = false_paper(office, book, note)
                self.assertEqual(paper is None, false_paper(office_so, book_so, that) is None)
                if paper is not None:
                    self.same(True, lets_false, office_so, book_so, that, turn.false(paper))
                for i in range(len(steps(book, note)) + 1):
                    self.assertEqual(turn.set(between(office, book, note, i)), between(office_so, book_so, that, i))
                    for place in office_places(office):
                        truth, paper = between_paper(office, book, note, i, place)
                        self.same(truth, lets_between, office_so, book_so, that, i, turn.place(place),
                                  turn.between(paper))

    def test_bags(self):
        chance = random.Random(373)
        told = 0
        for at in range(70):
            office = random_office(chance, most=4, always=ALWAYS)
            book = true_book(chance, office, 12) if at % 5 else random_book(chance, 8, office[1])
            turn = chance.choice(TURNS)
            office_so, book_so = self.turned(turn, office, book)
            word, stock = told_or_refused(supplies, office, book)
            self.assertEqual((word, turn.pairs(stock) if word == "told" else stock),
                             told_or_refused(supplies, office_so, book_so))
            for one in [when for when, deed in book]:
                for other in [when for when, deed in book]:
                    self.assertEqual(can_lie(office, book, one, other),
                                     can_lie(office_so, book_so, turn.name(one), turn.name(other)))
            word, thing = told_or_refused(fewest, office, book)
            if word == "refused":
                self.assertEqual((word, thing), told_or_refused(fewest, office_so, book_so))
                continue
            told += 1
            cost, rows, (of_bags, of_supplies) = thing
            self.assertEqual(cost, fewest(office_so, book_so)[0])
            self.same(cost, lets_cost, office_so, book_so, turn.rows(rows))
            self.same(cost, lets_prices, office_so, book_so, (turn.pairs(of_bags), turn.pairs(of_supplies)))
            self.same(True, lets_filling, office_so, book_so, turn.rows(filled(office, book)[1]))
            self.worths_and_many(chance, turn, office, book, office_so, book_so)
            for note in chance.sample(SOME_NOTES, 2):
                self.assertEqual(turn.answers(can_be(office, book, note)), can_be(office_so, book_so, turn.note(note)))
                for answer in all_answers(office, book):
                    truth, paper = where_paper(office, book, note, answer)
                    self.same(truth, lets_where, office_so, book_so, turn.note(note), turn.answer(answer),
                              turn.where(paper))
        self.assertGreater(told, 25)

    def worths_and_many(self, chance, turn, office, book, office_so, book_so):
        self.assertEqual(worth_between(office, book), worth_between(office_so, book_so))
        for word, paper, worth in zip(("least", "most"), worth_papers(office, book), worth_between(office, book)):
            self.same(worth, lets_worth, office_so, book_so, word, turn.worth(paper))
        runs = runs_from(chance.sample(SOME_NOTES, 4))
        for at in bags_due(book):
            for ask, lets in ((most_in, lets_most), (least_in, lets_least)):
                number, paper = ask(office, book, runs, at)
                self.assertEqual(number, ask(office_so, book_so, turn.runs(runs), turn.name(at))[0])
                self.same(number, lets, office_so, book_so, turn.runs(runs), turn.name(at), turn.many(paper))


class AskedAgainTest(PlainCase):
    def test_nothing_hangs_on_what_was_asked_before(self):
        chance = random.Random(374)
        questions = []
        for at in range(20):
            office = random_office(chance, most=4, always=ALWAYS)
            book = true_book(chance, office, 12)
            for function in (filled, fewest, worth_between, worth_papers, false_runs, supplies):
                questions.append((function, office, book))
            questions += [(can_be, office, book, note) for note in SOME_NOTES[:3]]
        answers = [told_or_refused(*question) for question in questions]
        order = list(range(len(questions)))
        chance.shuffle(order)
        for at in order:
            self.assertEqual(repr(answers[at]), repr(told_or_refused(*questions[at])))

    def test_lists_told_are_the_askers_own(self):
        book = true_book(random.Random(375), OFFICE, 12)
        for function, things in ((by_days, (book, "bank")), (offs, (book, "bank")), (shown_book, (book,))):
            first = function(*things)
            before = repr(first)
            first.append(None)
            self.assertEqual(before, repr(function(*things)))

    def test_refusals_change_nothing(self):
        ledger = Ledger(OFFICE)
        ledger.tell(move(name(1)))
        for ask in (lambda: ledger.tell(None), lambda: ledger.tell(move(name(1), runs=(("a", 0, 1),))),
                    lambda: ledger.then(2), lambda: ledger.then(-1)):
            with self.assertRaises(NoteError):
                ask()
            self.assertEqual((move(name(1)),), ledger.book())
            self.assertEqual(1, ledger.told())


class WhyTest(PlainCase):
    def test_sets_of_bags_that_want_as_many_as_there_are_bar_all_others(self):
        # By [8]: of a tight set of bags each note of their supplies is in one of them, in all worlds.
        chance = random.Random(376)
        seen_tight = 0
        for _ in range(150):
            office = random_office(chance, most=4, always=ALWAYS)
            book = true_book(chance, office, 12)
            if told_or_refused(worth_between, office, book)[0] == "refused":
                continue
            for note in SOME_NOTES:
                for place in office_places(office):
                    truth, paper = where_paper(office, book, note, ("at", place))
                    if paper[0] == "tight":
                        seen_tight += 1
                        supply = supplies_due(book)[supply_of(book, note)][1]
                        for other in supply:
                            can = can_be(office, book, other)
                            self.assertTrue(all(word == "bag" and what in paper[1] for word, what in can))
        self.assertGreater(seen_tight, 10)

    def test_less_and_both_part_a_set(self):
        book = true_book(random.Random(377), OFFICE, 12)
        self.assertEqual(many_in(made(book)), many_in(less(made(book), (("a", 0, 2),))) + many_in(
            both(made(book), (("a", 0, 2),))))
