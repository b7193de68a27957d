"""The checkers of PRICES, which show what each FILLING costs at the least, and of what a FILLING costs."""

from pressnotes.bags import lengths, stock_of, wanted
from pressnotes.errors import NoPaper
from pressnotes.fillchecker import lets_filling
from pressnotes.kinds import is_tuple_of
from pressnotes.pages import is_numbered


def name_fault(pairs, names):
    """The first place at which the pairs haven't the name due there, or have one more; None where there is none."""
    for k, name in enumerate(names):
        if k >= len(pairs) or pairs[k][0] != name:
            return k
    if len(pairs) > len(names):
        return len(names)
    return None


def refuse_bag_names(want, of_bags):
    """Refuses prices that aren't one for each bag with unread ones, in order."""
    fault = name_fault(of_bags, list(want))
    if fault is not None:
        raise NoPaper("bags", fault)


def refuse_supply_names(stock, of_supplies):
    """Refuses prices that aren't one from 0 on for each supply, in order."""
    faults = [k for k, (name, price) in enumerate(of_supplies) if price < 0]
    fault = name_fault(of_supplies, list(stock))
    if fault is not None:
        faults.append(fault)
    if faults:
        raise NoPaper("supplies", min(faults))


def refuse_high(length, of_bags, of_supplies):
    """Refuses a bag's price that, less that of a supply which can lie in it, is above the length between them."""
    for k, (name, low) in enumerate(of_supplies):
        for bag, high in of_bags:
            if (name, bag) in length and high - low > length[(name, bag)]:
                raise NoPaper("price", k)


def lets_prices(office, book, thing):
    """The BOUND of PRICES: no FILLING costs less; any other thing is refused."""
    if not is_tuple_of(thing, 2) or not is_numbered(thing[0]) or not is_numbered(thing[1]):
        raise NoPaper("shape", -1)
    of_bags, of_supplies = thing
    want = wanted(book)
    stock = stock_of(book)
    refuse_bag_names(want, of_bags)
    refuse_supply_names(stock, of_supplies)
    refuse_high(lengths(office, book), of_bags, of_supplies)
    bound = sum(price * want[bag] for bag, price in of_bags)
    return bound - sum(price * stock[name] for name, price in of_supplies)


def lets_cost(office, book, thing):
    """What a FILLING costs; any other thing is refused."""
    lets_filling(office, book, thing)
    length = lengths(office, book)
    return sum(length[(name, bag)] * many for name, bag, many in thing)
