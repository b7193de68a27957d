"""What all tests share: strict comparing, any things, notes counted one by one."""

import copy
import functools
import re
import signal
import unittest

from pressnotes.errors import NoPaper

TOP = 1000000000
BIG = 10 ** 39
FORTY_FIGURES = int("9" * 40)


def nested(depth):
    thing = ()
    for _ in range(depth):
        thing = (thing,)
    return thing


def nested_list(depth):
    thing = []
    for _ in range(depth):
        thing = [thing]
    return thing


JUNK = [
    None, True, False, 0, 1, 2, -1, 3, 12, 13, 999, 1000, 1001, 99999, 100000, TOP - 1, TOP, TOP + 1,
    10 ** 12, 10 ** 12 + 1, BIG, -BIG, FORTY_FIGURES, -FORTY_FIGURES,
    "", " ", "a", "b", "none", "abcdefgh", "abcdefghi", "A", "aB", "a1", "a b", "a-", "1", "~", "a.b", "`", "{",
    "sheet", "row", "column", "move", "bag", "read", "count", "void", "other",
    [], (), [()], ([],), ((),), (None,), [None], (True,), (1,), ("a",), ["a"], ("a", 1), ["a", 1], ("a", 1, 2),
    ["a", 1, 2], (("a", 1, 2),), [("a", 1, 2)], (("a", 1, 2), ("a", 3, 4)), ("a", "b"), (0, 0, "a"), [0, 0, "a"],
    ("a", True), ("a", 0, True), ("a", False, 1), ("a", 0, 1, 2), nested(50), nested_list(50),
]


def places_within(thing, path=()):
    """The paths to all things within nested tuples and lists, the whole first."""
    yield path
    if isinstance(thing, (tuple, list)):
        for at, item in enumerate(thing):
            yield from places_within(item, path + (at,))


def at_path(thing, path):
    for at in path:
        thing = thing[at]
    return thing


def with_changed(thing, path, new):
    """The thing with another one at the path; kinds of all others stay."""
    if not path:
        return new
    items = list(thing)
    items[path[0]] = with_changed(items[path[0]], path[1:], new)
    return items if isinstance(thing, list) else tuple(items)


def reshaped(item):
    """Things near to one: numbers beside it, shorter, longer, of another order or kind."""
    if isinstance(item, int):
        yield from (item - 1, item + 1, -item, str(item), [item], (item,), item == 1)
    elif isinstance(item, str):
        yield from (item + "a", item[:-1], item + " ", item.upper(), [item], (item,), list(item), tuple(item))
    elif isinstance(item, tuple):
        yield list(item)
        yield item[:-1]
        yield item[1:]
        yield item + (None,)
        yield item + item[-1:]
        yield item[:1] + item
        yield item + item
        yield item[::-1]
        yield (item,)
        for at in range(len(item)):
            yield item[:at] + item[at + 1:]


def variants(thing):
    """Many things that differ from a right one at one place."""
    for path in places_within(thing):
        for junk in JUNK:
            yield with_changed(thing, path, junk)
        for other in reshaped(at_path(thing, path)):
            yield with_changed(thing, path, other)


def only_lists_for_tuples(thing):
    """The thing with one of its tuples made a list, each in turn."""
    for path in places_within(thing):
        item = at_path(thing, path)
        if isinstance(item, tuple):
            yield with_changed(thing, path, list(item))


def only_truths_for_numbers(thing):
    """The thing with one of its numbers made a truth, each in turn."""
    for path in places_within(thing):
        item = at_path(thing, path)
        if isinstance(item, int) and not isinstance(item, bool):
            yield with_changed(thing, path, True)
            yield with_changed(thing, path, False)


def number_like(thing, least, most):
    return type(thing) is int and least <= thing <= most


def word_like(thing):
    return type(thing) is str and re.fullmatch("[a-z]{1,8}", thing) is not None


def run_like(thing):
    if type(thing) is not tuple or len(thing) != 3 or not word_like(thing[0]):
        return False
    if not number_like(thing[1], 0, TOP) or not number_like(thing[2], 0, TOP):
        return False
    return thing[1] < thing[2]


def runs_like(thing):
    """Whether it is RUNS, told by each two of its runs."""
    if type(thing) is not tuple or not all(run_like(run) for run in thing):
        return False
    for later in range(len(thing)):
        for earlier in range(later):
            if not thing[earlier] < thing[later]:
                return False
            if thing[earlier][0] == thing[later][0] and not thing[later][1] > thing[earlier][2]:
                return False
    return True


def notes_of(runs):
    """All notes of some runs, in their order, one by one (of small runs alone)."""
    return [(series, number) for series, low, high in runs for number in range(low, high)]


def runs_from(notes):
    """The RUNS of some notes, one by one."""
    found = []
    for series, number in sorted(set(notes)):
        if found and found[-1][0] == series and found[-1][2] == number:
            found[-1][2] = number + 1
        else:
            found.append([series, number, number + 1])
    return tuple(tuple(run) for run in found)


def random_runs(chance, most, series="ab", low=0, high=30):
    """A list of some runs, in any order, some perhaps alike."""
    found = []
    for _ in range(chance.randint(0, most)):
        ends = sorted(chance.sample(range(low, high + 1), 2))
        found.append((chance.choice(series), ends[0], ends[1]))
    return found


def office_places(office):
    return sorted({"none"} | {place for road in office[1] for place in road})


@functools.lru_cache(2000)
def distances(office):
    """The fewest roads from each place of an office to each, None where none lead there: Floyd's way."""
    places = office_places(office)
    found = {(one, other): 0 if one == other else 10 ** 6 for one in places for other in places}
    for road in office[1]:
        found[road] = 1
    for mid in places:
        for one in places:
            for other in places:
                found[one, other] = min(found[one, other], found[one, mid] + found[mid, other])
    return {pair: many if many < 10 ** 6 else None for pair, many in found.items()}


def random_office(chance, words=("none", "press", "bank", "post", "mint"), most=8, always=()):
    """An office of some roads between these places: in circles, dead ends, apart from none or not."""
    roads = [(one, other) for one in words for other in words if one != other and other != "none"]
    some = chance.sample(roads, chance.randint(1, min(most, len(roads))))
    return ((("a", 5), ("b", 10)), tuple(sorted(set(some) | set(always))))


def is_row_of_roads(office, thing, one, other):
    """Whether it is a tuple of places from the one to the other, road by road."""
    if type(thing) is not tuple or len(thing) == 0 or thing[0] != one or thing[-1] != other:
        return False
    return all((thing[at - 1], thing[at]) in office[1] for at in range(1, len(thing)))


def set_like(office, thing):
    """Whether it is a SET of places of the office."""
    if type(thing) is not tuple or not all(type(item) is str and item in office_places(office) for item in thing):
        return False
    return list(thing) == sorted(set(thing))


def all_sets(office):
    """All SETS of places of the office."""
    places = office_places(office)
    for bits in range(2 ** len(places)):
        yield tuple(place for at, place in enumerate(places) if bits >> at & 1)


def cut_due(office, one, other, places):
    """What a SET is as a cut between two places, by the words of [42]."""
    for k, (start, end) in enumerate(office[1]):
        if start in places and end not in places:
            return ("leaves", k)
    if one not in places:
        return ("from", 0)
    if other in places:
        return ("to", 0)
    return ("told", True)


class PlainCase(unittest.TestCase):
    """Compares strictly (True is no 1, a list no tuple), and fails what doesn't come to an end."""

    def setUp(self):
        signal.signal(signal.SIGALRM, self.too_long)
        signal.alarm(120)

    def tearDown(self):
        signal.alarm(0)

    def too_long(self, number, frame):
        raise AssertionError("not answered at once")

    def ask(self, function, *things):
        """What the function tells, asked twice, of things that must stay as they were."""
        before = copy.deepcopy(things)
        told = function(*things)
        self.assertEqual(repr(before), repr(things), function.__name__)
        self.assertEqual(repr(told), repr(function(*things)), function.__name__)
        self.assertEqual(repr(before), repr(things), function.__name__)
        return told

    def same(self, expected, function, *things):
        told = self.ask(function, *things)
        if repr(expected) != repr(told):
            self.fail(f"{function.__name__}{things!r}: {told!r} is told, due is {expected!r}")

    def refused(self, error, fields, function, *things):
        """The refusal is of just this class and has these fields, and nothing is changed."""
        before = copy.deepcopy(things)
        for _ in range(2):
            with self.assertRaises(ValueError, msg=f"{function.__name__}{things!r}") as caught:
                function(*things)
            self.assertIs(error, type(caught.exception), f"{function.__name__}{things!r}")
            for name, due in fields.items():
                self.assertEqual(repr(due), repr(getattr(caught.exception, name)), f"{function.__name__}{things!r}")
            self.assertEqual(repr(before), repr(things), function.__name__)

    def same_or_refused(self, oracle, error, field, function, *things):
        """The oracle gives ("told", thing) or ("refused", the field's thing)."""
        word, due = oracle
        if word == "told":
            self.same(due, function, *things)
        else:
            self.refused(error, {field: due}, function, *things)

    def same_or_no_paper(self, due, function, *things):
        """Due is ("told", thing), or the word and the place of a NoPaper."""
        word, what = due
        if word == "told":
            self.same(what, function, *things)
        else:
            self.refused(NoPaper, {"word": word, "place": what}, function, *things)

    def all_true(self, function, things):
        for thing in things:
            self.same(True, function, thing)

    def all_false(self, function, things):
        for thing in things:
            self.same(False, function, thing)

    def told_as(self, oracle, function, things):
        """The function tells of each thing just what the oracle does."""
        for thing in things:
            self.same(oracle(thing), function, thing)
