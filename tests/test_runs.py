"""Notes, runs and RUNS: points [2], [3] and [10]."""

import random

from pressnotes.errors import NoNumber
from pressnotes.runs import holds, is_note, is_run, is_runs, kth, many_in, place_of, runs_of
from tests.support import (
    BIG, FORTY_FIGURES, JUNK, TOP, PlainCase, notes_of, number_like, only_lists_for_tuples,
    only_truths_for_numbers, random_runs, run_like, runs_from, runs_like, variants, word_like,
)

LONG = (("a", 0, TOP), ("ab", 0, TOP), ("b", 7, TOP))


def note_like(thing):
    return type(thing) is tuple and len(thing) == 2 and word_like(thing[0]) and number_like(thing[1], 0, TOP - 1)


class IsNoteTest(PlainCase):
    def test_right_ones(self):
        self.all_true(is_note, [("a", 0), ("z", 1), ("abcdefgh", TOP - 1), ("none", 12), ("zzzzzzzz", 5)])

    def test_wrong_ones(self):
        self.all_false(is_note, [
            ("a", -1), ("a", TOP), ("a", BIG), ("a", FORTY_FIGURES), ("a", -BIG), ("", 0), ("abcdefghi", 0),
            ("A", 0), ("a1", 0), ("a ", 0), (" a", 0), ("a\n", 0), ("ab-", 0), ("`", 0), ("{", 0), ("a", "0"),
            ("a", None), ("a", True), ("a", False), (None, 0), (0, 0), ("a",), ("a", 0, 1), ("a", 0, None), ["a", 0],
            ("a", (0,)), (("a",), 0), (["a"], 0), ("a", [0]), (("a", 0),), [("a", 0)], "a0", "a:0", (), (0, "a"),
            (True, 0), (True, True), ("a", 0, 0),
        ])

    def test_any_thing(self):
        self.told_as(note_like, is_note, JUNK)
        for right in (("a", 0), ("ab", 1), ("abcdefgh", TOP - 1)):
            self.told_as(note_like, is_note, variants(right))
            self.all_false(is_note, only_lists_for_tuples(right))
            self.all_false(is_note, only_truths_for_numbers(right))


class IsRunTest(PlainCase):
    def test_right_ones(self):
        self.all_true(is_run, [
            ("a", 0, 1), ("a", 0, TOP), ("abcdefgh", TOP - 1, TOP), ("z", 5, 6), ("none", 5, 7), ("a", 1, 2),
        ])

    def test_wrong_ones(self):
        self.all_false(is_run, [
            ("a", 0, 0), ("a", 1, 1), ("a", 2, 1), ("a", -1, 1), ("a", -2, -1), ("a", 0, TOP + 1),
            ("a", TOP, TOP + 1), ("a", TOP, TOP), ("a", 0, BIG), ("a", -BIG, 3), ("a", BIG, BIG + 1), ("", 0, 1),
            ("abcdefghi", 0, 1), ("A", 0, 1), ("a", 0, True), ("a", False, 1), ("a", True, 2), ("a", False, True),
            ("a", None, 1), ("a", 0, None), ("a", "0", "1"), (None, 0, 1), ("a", 0), ("a", 0, 1, 2), ["a", 0, 1],
            (("a", 0, 1),), (), "a01", ("a", (0,), 1), ("a", 0, (1,)), ("a", [0], 1), ("a", 0, [1]), (0, 0, 1),
        ])

    def test_any_thing(self):
        self.told_as(run_like, is_run, JUNK)
        for right in (("a", 0, 1), ("ab", 1, 2), ("abcdefgh", 0, TOP), ("b", TOP - 1, TOP)):
            self.told_as(run_like, is_run, variants(right))
            self.all_false(is_run, only_lists_for_tuples(right))
            self.all_false(is_run, only_truths_for_numbers(right))


class IsRunsTest(PlainCase):
    def test_right_ones(self):
        self.all_true(is_runs, [
            (), (("a", 0, 1),), (("a", 0, TOP),), (("a", 0, 1), ("a", 2, 3)), (("a", 0, 5), ("b", 0, 5)),
            (("a", 5, 9), ("ab", 0, 3), ("b", 1, 2), ("b", 3, 4)), (("a", 5, 9), ("b", 9, 10)),
            (("a", 0, TOP - 2), ("a", TOP - 1, TOP)), (("a", 7, 8), ("aa", 2, 9)), LONG,
        ])

    def test_wrong_ones(self):
        self.all_false(is_runs, [
            [], None, [("a", 0, 1)], ("a", 0, 1), (["a", 0, 1],), (("a", 0, 1), ("a", 1, 2)),
            (("a", 0, 1), ("a", 0, 1)), (("a", 0, 3), ("a", 2, 5)), (("a", 0, 9), ("a", 3, 5)),
            (("a", 2, 3), ("a", 0, 1)), (("b", 0, 1), ("a", 0, 1)), (("b", 0, 1), ("a", 5, 9)),
            (("a", 0, 1), ("a", 2, 3), ("a", 3, 4)), (("a", 0, 1), ("b", 0, 1), ("a", 5, 6)),
            (("a", 0, 1), ("b", 3, 3)), (("a", 0, 1), None), (None, ("a", 0, 1)), (("a", 0, 1), ("b", 0, True)),
            ((("a", 0, 1),),), (("ab", 0, 1), ("a", 0, 1)), ((),), (("a", 0, 1), ()), (("a", 0, TOP + 1),),
            (("a", 0, 5), ("a", 0, 7)), (("a", 0, 5), ("a", 5, 7)), (("a", 0, 1), [("b", 0, 1)]), "", "a", 0, True,
        ])

    def test_any_thing(self):
        self.told_as(runs_like, is_runs, JUNK)
        for right in ((("a", 0, 1),), (("a", 1, 3), ("a", 4, 6)), (("a", 1, 3), ("ab", 2, 4), ("b", 1, 2))):
            self.told_as(runs_like, is_runs, variants(right))
            self.all_false(is_runs, only_lists_for_tuples(right))
            self.all_false(is_runs, only_truths_for_numbers(right))

    def test_random_rows_of_runs(self):
        chance = random.Random(101)
        for _ in range(3000):
            some = random_runs(chance, 4, ["a", "ab", "b"], 0, 9)
            if chance.random() < 0.7:
                some = sorted(some)
            self.same(runs_like(tuple(some)), is_runs, tuple(some))

    def test_of_however_many(self):
        many = tuple(("a", 2 * at, 2 * at + 1) for at in range(1200))
        self.same(True, is_runs, many)
        self.same(False, is_runs, many + (("a", 2399, 2400),))
        self.same(False, is_runs, many[:600] + (("a", 1198, 1199),) + many[600:])
        self.same(False, is_runs, many + (None,))


class RunsOfTest(PlainCase):
    def test_none(self):
        self.same((), runs_of, [])

    def test_ordinary(self):
        self.same((("a", 0, 3),), runs_of, [("a", 0, 3)])
        self.same((("a", 0, 3), ("a", 4, 6)), runs_of, [("a", 4, 6), ("a", 0, 3)])
        self.same((("a", 0, 6),), runs_of, [("a", 3, 6), ("a", 0, 3)])
        self.same((("a", 0, 3),), runs_of, [("a", 0, 3), ("a", 0, 3), ("a", 0, 3)])
        self.same((("a", 0, 9),), runs_of, [("a", 0, 9), ("a", 2, 4), ("a", 3, 6)])
        self.same((("a", 0, 9),), runs_of, [("a", 0, 5), ("a", 3, 9)])
        self.same((("a", 3, 5), ("ab", 5, 7), ("b", 0, 3)), runs_of, [("b", 0, 3), ("ab", 5, 7), ("a", 3, 5)])
        self.same((("a", 0, 7), ("b", 2, 8)), runs_of, [("b", 4, 8), ("a", 5, 7), ("b", 2, 4), ("a", 0, 5)])

    def test_ends_of_the_numbers(self):
        self.same((("a", 0, TOP),), runs_of, [("a", 1, TOP), ("a", 0, 1)])
        self.same((("a", 0, 1), ("a", TOP - 1, TOP)), runs_of, [("a", TOP - 1, TOP), ("a", 0, 1)])
        self.same((("a", TOP - 3, TOP),), runs_of, [("a", TOP - 1, TOP), ("a", TOP - 3, TOP - 1)])

    def test_against_notes_one_by_one(self):
        chance = random.Random(11)
        for low in (0, TOP - 40):
            for most in (3, 6, 12):
                for _ in range(250):
                    some = random_runs(chance, most, ["a", "ab", "b"], low, low + 40)
                    self.same(runs_from(notes_of(some)), runs_of, some)

    def test_sixty(self):
        chance = random.Random(12)
        for _ in range(60):
            some = []
            while len(some) < 60:
                low = chance.randint(0, 400)
                some.append((chance.choice("ab"), low, low + chance.randint(1, 8)))
            self.same(runs_from(notes_of(some)), runs_of, some)
        apart = [("a", 10 * at, 10 * at + 9) for at in range(60)]
        self.same(tuple(apart), runs_of, apart[::-1])
        touching = [("a", 10 * at, 10 * at + 10) for at in range(60)]
        self.same((("a", 0, 600),), runs_of, touching[::-1])

    def test_the_list_stays_and_the_answer_is_a_tuple(self):
        some = [("b", 4, 8), ("a", 5, 7), ("b", 2, 4)]
        told = runs_of(some)
        self.assertIs(tuple, type(told))
        self.assertEqual([("b", 4, 8), ("a", 5, 7), ("b", 2, 4)], some)

    def test_long_runs(self):
        self.same((("a", 0, TOP), ("b", 0, TOP)), runs_of, [("b", 5, TOP), ("a", 0, TOP), ("b", 0, TOP - 5)])


class AskedOfRunsTest(PlainCase):
    RUNS = (("a", 3, 6), ("a", 8, 9), ("ab", 0, 2), ("b", 4, 7))

    def test_many_in(self):
        self.same(0, many_in, ())
        self.same(1, many_in, (("a", 4, 5),))
        self.same(9, many_in, self.RUNS)
        self.same(3 * TOP - 7, many_in, LONG)

    def test_holds_at_the_ends_and_beside(self):
        inside = notes_of(self.RUNS)
        for series in ("a", "aa", "ab", "b", "c"):
            for number in range(12):
                self.same((series, number) in inside, holds, self.RUNS, (series, number))
        self.same(False, holds, (), ("a", 0))
        self.same(True, holds, LONG, ("a", TOP - 1))
        self.same(True, holds, LONG, ("b", 7))
        self.same(False, holds, LONG, ("b", 6))

    def test_kth(self):
        for k, note in enumerate(notes_of(self.RUNS)):
            self.same(note, kth, self.RUNS, k)
        for k in (-1, -2, 9, 10, TOP, BIG, -BIG, FORTY_FIGURES, -FORTY_FIGURES):
            self.refused(NoNumber, {"number": k}, kth, self.RUNS, k)
        for k in (-1, 0, 1):
            self.refused(NoNumber, {"number": k}, kth, (), k)

    def test_kth_of_long_runs(self):
        self.same(("a", TOP - 1), kth, LONG, TOP - 1)
        self.same(("ab", 0), kth, LONG, TOP)
        self.same(("ab", TOP - 1), kth, LONG, 2 * TOP - 1)
        self.same(("b", 7), kth, LONG, 2 * TOP)
        self.same(("b", TOP - 1), kth, LONG, 3 * TOP - 8)
        self.refused(NoNumber, {"number": 3 * TOP - 7}, kth, LONG, 3 * TOP - 7)

    def test_place_of(self):
        inside = notes_of(self.RUNS)
        for series in ("a", "aa", "ab", "b", "c"):
            for number in range(12):
                note = (series, number)
                self.same(inside.index(note) if note in inside else None, place_of, self.RUNS, note)
        self.same(None, place_of, (), ("a", 0))
        self.same(0, place_of, LONG, ("a", 0))
        self.same(2 * TOP - 1, place_of, LONG, ("ab", TOP - 1))
        self.same(3 * TOP - 8, place_of, LONG, ("b", TOP - 1))
        self.same(None, place_of, LONG, ("b", 6))

    def test_random_runs_against_their_notes(self):
        chance = random.Random(13)
        for _ in range(150):
            runs = runs_from(notes_of(random_runs(chance, 5)))
            inside = notes_of(runs)
            self.same(len(inside), many_in, runs)
            for note in notes_of((("a", 0, 31), ("b", 0, 31))):
                self.same(note in inside, holds, runs, note)
                self.same(inside.index(note) if note in inside else None, place_of, runs, note)
            for k in range(len(inside)):
                self.same(inside[k], kth, runs, k)
            self.refused(NoNumber, {"number": len(inside)}, kth, runs, len(inside))
