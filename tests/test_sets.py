"""RUNS as sets: point [11]."""

import random

from pressnotes.sets import both, is_within, less, of_series, together
from tests.support import TOP, PlainCase, notes_of, random_runs, runs_from, runs_like

ONE = (("a", 0, 5), ("a", 8, 12), ("b", 3, 6))
OTHER = (("a", 3, 9), ("b", 0, 3), ("c", 1, 2))


class SetsTest(PlainCase):
    def compare(self, one, other):
        first = set(notes_of(one))
        second = set(notes_of(other))
        self.same(runs_from(first | second), together, one, other)
        self.same(runs_from(first & second), both, one, other)
        self.same(runs_from(first - second), less, one, other)
        self.same(first <= second, is_within, one, other)

    def test_ordinary(self):
        self.same((("a", 0, 12), ("b", 0, 6), ("c", 1, 2)), together, ONE, OTHER)
        self.same((("a", 3, 5), ("a", 8, 9)), both, ONE, OTHER)
        self.same((("a", 0, 3), ("a", 9, 12), ("b", 3, 6)), less, ONE, OTHER)
        self.same((("a", 5, 8), ("b", 0, 3), ("c", 1, 2)), less, OTHER, ONE)
        self.same(False, is_within, ONE, OTHER)
        self.same(True, is_within, (("a", 3, 5), ("a", 8, 9)), OTHER)

    def test_with_none(self):
        for function in (together, both, less):
            self.same((), function, (), ())
        self.same(ONE, together, ONE, ())
        self.same(ONE, together, (), ONE)
        self.same((), both, ONE, ())
        self.same((), both, (), ONE)
        self.same(ONE, less, ONE, ())
        self.same((), less, (), ONE)
        self.same(True, is_within, (), ())
        self.same(True, is_within, (), ONE)
        self.same(False, is_within, ONE, ())

    def test_one_with_itself(self):
        self.same(ONE, together, ONE, ONE)
        self.same(ONE, both, ONE, ONE)
        self.same((), less, ONE, ONE)
        self.same(True, is_within, ONE, ONE)

    def test_runs_that_touch(self):
        self.same((("a", 0, 9),), together, (("a", 0, 4),), (("a", 4, 9),))
        self.same((), both, (("a", 0, 4),), (("a", 4, 9),))
        self.same((("a", 0, 4),), less, (("a", 0, 4),), (("a", 4, 9),))
        self.same((("a", 4, 9),), less, (("a", 4, 9),), (("a", 0, 4),))
        self.same(False, is_within, (("a", 0, 4),), (("a", 4, 9),))

    def test_series_are_kept_apart(self):
        self.same((("a", 0, 4), ("ab", 0, 4), ("b", 0, 4)), together, (("a", 0, 4), ("b", 0, 4)), (("ab", 0, 4),))
        self.same((), both, (("a", 0, 4), ("b", 0, 4)), (("ab", 0, 4),))
        self.same((("a", 0, 4), ("b", 0, 4)), less, (("a", 0, 4), ("b", 0, 4)), (("ab", 0, 4),))
        self.same(False, is_within, (("a", 0, 4),), (("ab", 0, 4),))

    def test_one_run_less_its_edges(self):
        run = (("a", 2, 8),)
        for low in range(10):
            for high in range(low + 1, 11):
                self.compare(run, (("a", low, high),))
                self.compare((("a", low, high),), run)

    def test_against_notes_one_by_one(self):
        chance = random.Random(21)
        for low in (0, TOP - 30):
            for most in (1, 3, 6):
                for _ in range(400):
                    one = runs_from(notes_of(random_runs(chance, most, ["a", "ab", "b"], low, low + 30)))
                    other = runs_from(notes_of(random_runs(chance, most, ["a", "ab", "b"], low, low + 30)))
                    self.compare(one, other)

    def test_many_short_runs(self):
        chance = random.Random(22)
        for _ in range(40):
            one = runs_from([(chance.choice("ab"), chance.randint(0, 60)) for _ in range(60)])
            other = runs_from([(chance.choice("ab"), chance.randint(0, 60)) for _ in range(60)])
            self.compare(one, other)
            self.compare(one, runs_from(notes_of(one) + notes_of(other)))

    def test_long_runs(self):
        whole = (("a", 0, TOP), ("b", 0, TOP))
        some = (("a", 5, 6), ("b", 0, TOP - 1))
        self.same(whole, together, whole, some)
        self.same(some, both, whole, some)
        self.same((("a", 0, 5), ("a", 6, TOP), ("b", TOP - 1, TOP)), less, whole, some)
        self.same(True, is_within, some, whole)
        self.same(False, is_within, whole, some)

    def test_answers_are_runs(self):
        for function in (together, both, less):
            self.assertTrue(runs_like(function(ONE, OTHER)))

    def test_of_series(self):
        self.same((("a", 0, 5), ("a", 8, 12)), of_series, ONE, "a")
        self.same((("b", 3, 6),), of_series, ONE, "b")
        self.same((), of_series, ONE, "c")
        self.same((), of_series, ONE, "ab")
        self.same((), of_series, (), "a")
        runs = (("a", 0, 1), ("ab", 0, 1), ("ab", 3, 4), ("b", 0, 1))
        self.same((("ab", 0, 1), ("ab", 3, 4)), of_series, runs, "ab")
        self.same((("a", 0, 1),), of_series, runs, "a")
