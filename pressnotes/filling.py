"""Filling bags: what the supplies give to each bag, or bags that want more than they can take."""

from pressnotes.bags import lying, stock_of, unread, wanted
from pressnotes.errors import NoWorld
from pressnotes.falsehoods import refuse_false


def refuse_unfit(office, book):
    """Refuses a book that tells a note falsely, then one of which more notes of a bag are read than it had."""
    refuse_false(office, book)
    if any(many < 0 for name, many in unread(book)):
        raise NoWorld("over")


def seek(lies, given, left, bag):
    """Seeks notes for a bag that lacks some: (a chain or None, the bags that were looked at).

    The chain has a supply with notes left, a bag, a supply, a bag and so on up to the bag that lacks some: each supply
    gives to the bag behind it and, but for the first, takes so many back from the bag ahead of it.
    """
    chains = {bag: [bag]}
    found = [bag]
    at = 0
    # The shortest chains come first: so how many are needed hangs on the names alone, not on how many notes there are.
    while at < len(found):
        here = found[at]
        for name in lies[here]:
            if left[name] > 0:
                return ([name] + chains[here], found)
            for other in lies:
                if other not in chains and given.get((name, other), 0) > 0:
                    chains[other] = [other, name] + chains[here]
                    found.append(other)
        at += 1
    return (None, found)


def push(given, left, lack, chain):
    """Hands on as many notes along the chain as it has and as the bag at its end lacks; tells how many."""
    gives = [(chain[at], chain[at + 1]) for at in range(0, len(chain), 2)]
    takes = [(chain[at], chain[at - 1]) for at in range(2, len(chain), 2)]
    many = min([lack, left[chain[0]]] + [given[pair] for pair in takes])
    left[chain[0]] -= many
    for pair in gives:
        given[pair] = given.get(pair, 0) + many
    for pair in takes:
        given[pair] -= many
    return many


def fill(given, left, lies, bag, lack):
    """Hands a bag what it lacks as far as can be: (how many it lacks still, the bags that bar it from more)."""
    while lack > 0:
        chain, found = seek(lies, given, left, bag)
        if chain is None:
            return (lack, found)
        lack -= push(given, left, lack, chain)
    return (0, [])


def poured(stock, want, lies):
    """Gives each bag what it wants: (how many by (supply, bag), None), or (None, BAGS that want more than they can)."""
    given = {}
    left = {name: stock[name] for name in stock}
    for bag in want:
        lack, found = fill(given, left, lies, bag, want[bag])
        if lack > 0:
            return (None, tuple(sorted(found)))
    return (given, None)


def store_of(office, book):
    """What the supplies have, what the bags want, and which supplies can lie in which; refused without a world."""
    refuse_unfit(office, book)
    store = (stock_of(book), wanted(book), lying(office, book))
    given, short = poured(store[0], store[1], store[2])
    if given is None:
        raise NoWorld("short")
    return store


def rows_of(given):
    """The FILLING of what is given by (supply, bag)."""
    return tuple([(name, bag, given[(name, bag)]) for name, bag in sorted(given) if given[(name, bag)] > 0])


def filled(office, book):
    """("filled", a FILLING), or, where there is none, ("short", BAGS that have more unread ones than they can take)."""
    refuse_unfit(office, book)
    given, short = poured(stock_of(book), wanted(book), lying(office, book))
    if given is None:
        return ("short", short)
    return ("filled", rows_of(given))
