"""Bags: how many of their notes nobody has read, and whose last page's notes can lie in them."""

from pressnotes.books import counted_bags, counted_pages
from pressnotes.falsehoods import refuse_false
from pressnotes.lasts import last_steps
from pressnotes.reach import all_reaches, far
from pressnotes.runs import many_in
from pressnotes.sets import both, of_series
from pressnotes.steps import steps


def unread(book):
    """For each counted bag its name, and its many less what its counted reads name, read by read."""
    bags = counted_bags(book)
    left = {name: bags[name][3] for name in sorted(bags)}
    for name, deed in counted_pages(book):
        if deed[0] == "read":
            left[deed[1]] -= many_in(deed[2])
    return tuple([(name, left[name]) for name in left])


def wanted(book):
    """By their names, rising, how many unread ones the bags have that have any."""
    return {name: many for name, many in unread(book) if many > 0}


def stock_of(book):
    """By their names, rising, how many notes the supplies have."""
    return {name: many_in(runs) for name, place, runs in last_steps(book)}


def parts_of(book, runs):
    """By the supplies' names, rising, how many of their notes are of the runs and how many aren't."""
    found = {}
    for name, place, own in last_steps(book):
        many = many_in(both(own, runs))
        found[name] = (many, many_in(own) - many)
    return found


def stock_by_series(book):
    """By (supply's name, series), rising, how many notes the supplies have of each series that they have."""
    found = {}
    for name, place, own in last_steps(book):
        for run in own:
            found[(name, run[0])] = many_in(of_series(own, run[0]))
    return found


def supplies(office, book):
    """For each supply its name and how many notes it has."""
    refuse_false(office, book)
    stock = stock_of(book)
    return tuple([(name, stock[name]) for name in stock])


def supply_of(book, note):
    """The name of the page that tells the note's last step, None where it has no step."""
    told = steps(book, note)
    if not told:
        return None
    return told[-1][3]


def lying(office, book):
    """By the names of the counted bags the names of the supplies that can lie in each."""
    reaches = all_reaches(office)
    bags = counted_bags(book)
    stock = last_steps(book)
    found = {}
    for bag in bags:
        start = bags[bag][1]
        # A read's notes are told sealed up to its own name, so its name, not its moment, must be ahead of the bag.
        found[bag] = [name for name, place, runs in stock if name < bag and start in reaches[place]]
    return found


def can_lie(office, book, name, bag):
    """Whether notes of the supply of this name can be unread ones of the counted bag of that name."""
    return name in lying(office, book).get(bag, [])


def lengths(office, book):
    """By (supply, bag), for each supply that can lie in the bag: how FAR the bag's from is from the supply's place."""
    bags = counted_bags(book)
    lies = lying(office, book)
    places = {name: place for name, place, runs in last_steps(book)}
    return {(name, bag): far(office, places[name], bags[bag][1]) for bag in lies for name in lies[bag]}


def can_take(stock, lies, names):
    """How many notes there are of the supplies that can lie in one of the bags of these names."""
    givers = [name for bag in names for name in lies[bag]]
    return sum(stock[name] for name in stock if name in givers)
