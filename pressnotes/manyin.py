"""How many notes of some runs can be among a bag's unread ones, with papers of the most and of the least."""

from pressnotes.bags import parts_of
from pressnotes.filling import fill, store_of


def parted_lies(lies, bag):
    """Which parts of supplies can lie in which bags, the asked bag itself in two: one for each part."""
    found = {(bag, part): [(name, part) for name in lies[bag]] for part in range(2)}
    for other in lies:
        if other != bag:
            found[(other, 0)] = [(name, part) for name in lies[other] for part in range(2)]
    return found


def parted_rows(given):
    """The PARTED filling of what is given by ((supply, part), (bag, part of it))."""
    sums = {}
    for (name, part), (bag, half) in given:
        row = sums.setdefault((name, bag), [0, 0])
        row[part] += given[((name, part), (bag, half))]
    return tuple([pair + tuple(sums[pair]) for pair in sorted(sums) if sum(sums[pair]) > 0])


def most_of_part(office, book, runs, bag, part):
    """The most notes of one part (0 the runs', 1 the others) in the bag, how many it has beside, and a paper."""
    stock, want, lies = store_of(office, book)
    parts = parts_of(book, runs)
    left = {(name, side): parts[name][side] for name in parts for side in range(2)}
    ways = parted_lies(lies, bag)
    given = {}
    # The other bags first: what they have can be changed for other notes later, but stays as many.
    for other in want:
        if other != bag:
            fill(given, left, ways, (other, 0), want[other])
    wish = want.get(bag, 0)
    lack, found = fill(given, left, ways, (bag, part), wish)
    fill(given, left, ways, (bag, 1 - part), lack)
    bound = None
    if lack > 0:
        bound = tuple(sorted([name for name, half in found if name != bag]))
    return (wish - lack, lack, (parted_rows(given), bound))


def most_in(office, book, runs, bag):
    """The most of the runs' notes that can be unread ones of the bag in one world, and a paper of it."""
    most, beside, paper = most_of_part(office, book, runs, bag, 0)
    return (most, paper)


def least_in(office, book, runs, bag):
    """The least of the runs' notes that can be unread ones of the bag in one world, and a paper of it."""
    most, beside, paper = most_of_part(office, book, runs, bag, 1)
    return (beside, paper)
