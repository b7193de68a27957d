"""The notes that have a step, and which page tells the last of each: point [33]."""

import random

from pressnotes.lasts import last_pages, made
from tests.support import TOP, PlainCase, notes_of, runs_from, runs_like
from tests.test_books import bag, count, move, name, random_book, read, void
from tests.test_steps import ALL_NOTES, steps_due


class LastsTest(PlainCase):
    def told(self, book, due_made, due_lasts):
        self.same(due_made, made, book)
        self.same(due_lasts, last_pages, book)

    def test_no_steps(self):
        self.told((), (), ())
        self.told((bag(name(1)), count(name(2)), void(name(3), name(9)), read(name(4), name(9))), (), ())
        self.told((move(name(1)), void(name(3), name(1))), (), ())

    def test_one_move(self):
        runs = (("a", 0, 5), ("b", 2, 3))
        self.told((move(name(1), runs=runs),), runs, ((name(1), runs),))

    def test_later_moves_take_notes_over(self):
        book = (move(name(1), runs=(("a", 0, 10),)), move(name(2), "press", "bank", (("a", 3, 5), ("b", 0, 2))))
        lasts = ((name(1), (("a", 0, 3), ("a", 5, 10))), (name(2), (("a", 3, 5), ("b", 0, 2))))
        self.told(book, (("a", 0, 10), ("b", 0, 2)), lasts)

    def test_a_page_of_which_no_note_is_last_stands_in_none(self):
        book = (move(name(1), runs=(("a", 3, 5),)), move(name(2), "press", "bank", (("a", 0, 9),)))
        self.told(book, (("a", 0, 9),), ((name(2), (("a", 0, 9),)),))

    def test_moments_count_and_names_are_told(self):
        # The read's name is the last one, but its moment is ahead of the move's.
        book = (bag(name(2)), move(name(4), "bank", "post", (("a", 0, 4),)), read(name(5), name(2), (("a", 2, 8),)))
        self.told(book, (("a", 0, 8),), ((name(4), (("a", 0, 4),)), (name(5), (("a", 4, 8),))))
        # The read's name is the first one, but its moment is the last.
        book = (read(name(1), name(6), (("a", 2, 8),)), move(name(4), runs=(("a", 0, 4),)), bag(name(6)))
        self.told(book, (("a", 0, 8),), ((name(1), (("a", 2, 8),)), (name(4), (("a", 0, 2),))))

    def test_two_reads_of_one_bag(self):
        book = (bag(name(2)), read(name(5), name(2), (("a", 0, 4),)), read(name(7), name(2), (("a", 2, 8),)))
        self.told(book, (("a", 0, 8),), ((name(5), (("a", 0, 2),)), (name(7), (("a", 2, 8),))))
        book = (read(name(0), name(2), (("a", 2, 8),)), bag(name(2)), read(name(5), name(2), (("a", 0, 4),)))
        self.told(book, (("a", 0, 8),), ((name(0), (("a", 4, 8),)), (name(5), (("a", 0, 4),))))

    def test_what_is_not_counted_tells_nothing(self):
        book = (
            move(name(1), runs=(("a", 0, 4),)), move(name(2), "press", "bank", (("a", 2, 9),)), bag(name(3)),
            read(name(4), name(3), (("b", 0, 9),)), void(name(5), name(2)), void(name(6), name(3)),
        )
        self.told(book, (("a", 0, 4),), ((name(1), (("a", 0, 4),)),))

    def test_touching_runs_of_two_pages_are_one_in_made(self):
        book = (move(name(1), runs=(("a", 0, 4),)), move(name(2), runs=(("a", 4, 9),)))
        self.told(book, (("a", 0, 9),), ((name(1), (("a", 0, 4),)), (name(2), (("a", 4, 9),))))

    def test_long_runs(self):
        book = (
            move(name(1), runs=(("a", 0, TOP), ("b", 0, TOP))), bag(name(2), many=TOP),
            read(name(3), name(2), (("a", 5, TOP - 5),)), move(name(4), "bank", "post", (("a", 7, 8),)),
        )
        lasts = (
            (name(1), (("a", 0, 5), ("a", TOP - 5, TOP), ("b", 0, TOP))),
            (name(3), (("a", 5, 7), ("a", 8, TOP - 5))), (name(4), (("a", 7, 8),)),
        )
        self.told(book, (("a", 0, TOP), ("b", 0, TOP)), lasts)

    def test_against_notes_one_by_one(self):
        chance = random.Random(91)
        several = 0
        for _ in range(400):
            book = random_book(chance, 14)
            by_page = {}
            for note in ALL_NOTES:
                due = steps_due(book, note)
                if due:
                    by_page.setdefault(due[-1][3], []).append(note)
            lasts = tuple((at, runs_from(by_page[at])) for at in sorted(by_page))
            several += len(lasts) > 1
            self.told(book, runs_from([note for notes in by_page.values() for note in notes]), lasts)
        self.assertGreater(several, 100)

    def test_each_note_is_of_just_one_of_lasts(self):
        chance = random.Random(92)
        for _ in range(200):
            book = random_book(chance, 14)
            lasts = self.ask(last_pages, book)
            notes = [note for at, runs in lasts for note in notes_of(runs)]
            self.assertEqual(len(notes), len(set(notes)))
            self.same(runs_from(notes), made, book)
            self.assertTrue(all(runs != () and runs_like(runs) for at, runs in lasts))

    def test_forty_pages_of_twenty_four_runs(self):
        book = tuple(
            move(name(at), runs=tuple(("a", 100 * part + at, 100 * part + at + 30) for part in range(24)))
            for at in range(40))
        self.same(tuple(("a", 100 * part, 100 * part + 69) for part in range(24)), made, book)
        lasts = []
        for at in range(40):
            high = at + 1 if at < 39 else 69
            lasts.append((name(at), tuple(("a", 100 * part + at, 100 * part + high) for part in range(24))))
        self.same(tuple(lasts), last_pages, book)
