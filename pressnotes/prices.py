"""The fewest moves into bags: a FILLING that costs the least, and PRICES that show that none costs less."""

from pressnotes.bags import lengths
from pressnotes.filling import push, rows_of, store_of


def chains_to(lies, length, given, bag):
    """The cheapest chains to a bag, by the bag with which each begins: (cost, bags behind the first one, chain).

    A chain is as seek tells it, but without the supply at its head. Of those that cost the same the shortest is told.
    """
    best = {bag: (0, 0, [bag])}
    found = [bag]
    at = 0
    # A bag is looked at again whenever a better chain from it is found; notes given are never given too dearly, so no
    # chain gets better by going round.
    while at < len(found):
        here = found[at]
        cost, many, chain = best[here]
        for name in lies[here]:
            for other in lies:
                if given.get((name, other), 0) > 0:
                    step = (cost + length[(name, here)] - length[(name, other)], many + 1)
                    if other not in best or step < best[other][:2]:
                        best[other] = step + ([other, name] + chain,)
                        found.append(other)
        at += 1
    return best


def cheapest(lies, length, given, left, bag):
    """A cheapest chain that hands a note to a bag from a supply with notes left, of these one of the shortest."""
    best = chains_to(lies, length, given, bag)
    found = None
    for here in best:
        cost, many, chain = best[here]
        for name in lies[here]:
            whole = (cost + length[(name, here)], many, [name] + chain)
            if left[name] > 0 and (found is None or whole[:2] < found[:2]):
                found = whole
    return found[2]


def poured_cheaply(stock, want, lies, length):
    """What is given by (supply, bag) in a FILLING that costs the least."""
    given = {}
    left = {name: stock[name] for name in stock}
    for bag in want:
        lack = want[bag]
        while lack > 0:
            lack -= push(given, left, lack, cheapest(lies, length, given, left, bag))
    return given


def prices_of(stock, want, lies, length, given):
    """PRICES whose BOUND is what is given costs, where this is the least."""
    # A supply's price is what one note more of it would save; it rises as long as a bag's price is too high for it.
    of_supplies = {name: 0 for name in stock}
    while True:
        of_bags = {}
        for bag in want:
            givers = [name for name in lies[bag] if given.get((name, bag), 0) > 0]
            of_bags[bag] = max([length[(name, bag)] + of_supplies[name] for name in givers])
        raised = {}
        for name in stock:
            raised[name] = max([0] + [of_bags[bag] - length[(name, bag)] for bag in want if name in lies[bag]])
        if raised == of_supplies:
            return (tuple(of_bags.items()), tuple(of_supplies.items()))
        of_supplies = raised


def fewest(office, book):
    """(what it costs, a FILLING that costs the least, PRICES that show it)."""
    stock, want, lies = store_of(office, book)
    length = lengths(office, book)
    given = poured_cheaply(stock, want, lies, length)
    cost = sum(length[pair] * given[pair] for pair in given)
    return (cost, rows_of(given), prices_of(stock, want, lies, length, given))
