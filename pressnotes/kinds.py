"""What the kinds of the other files are made of: numbers, words, tuples."""


def is_number(thing):
    """Whether it is a NUMBER: Python takes True and False for ints, the document doesn't."""
    return isinstance(thing, int) and not isinstance(thing, bool)


def is_from_to(thing, least, most):
    """Whether it is a NUMBER from least up to most, both counted."""
    return is_number(thing) and least <= thing <= most


def is_word(thing):
    """Whether it is a text of one to eight small letters: a series, a place or a hand."""
    if not isinstance(thing, str) or len(thing) < 1 or len(thing) > 8:
        return False
    return all("a" <= sign <= "z" for sign in thing)


def is_tuple_of(thing, many):
    """Whether it is a tuple of just so many things."""
    return isinstance(thing, tuple) and len(thing) == many


def rises(things):
    """Whether each of them is above the one ahead, so that no two are alike."""
    return all(things[at - 1] < things[at] for at in range(1, len(things)))
