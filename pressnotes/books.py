"""Books: pages rising by their names, and which of them count."""

from pressnotes.errors import NoPage
from pressnotes.kinds import rises
from pressnotes.pages import is_page


def is_book(office, thing):
    """Whether it is a BOOK of the office, of however many pages."""
    if not isinstance(thing, tuple) or not all(is_page(office, page) for page in thing):
        return False
    return rises([name for name, deed in thing])


def book_of(pages):
    """The BOOK of the pages, in whatever order and however often each is there."""
    deeds = {}
    twice = []
    for name, deed in pages:
        if name in deeds and deeds[name] != deed:
            twice.append(name)
        deeds[name] = deed
    if twice:
        raise NoPage("other", min(twice))
    return tuple([(name, deeds[name]) for name in sorted(deeds)])


def named_by_voids(book):
    """The names that voids of the book name, whatever stands there, as a dict of True."""
    return {deed[1]: True for name, deed in book if deed[0] == "void"}


def counted_bags(book):
    """The deeds of the counted bags, by their names."""
    gone = named_by_voids(book)
    return {name: deed for name, deed in book if deed[0] == "bag" and name not in gone}


def standing_of(page, gone, bags):
    """How a page stands in a book whose voids name gone and whose counted bags are bags."""
    name, deed = page
    if deed[0] == "void":
        return "void"
    if name in gone:
        return "voided"
    if deed[0] == "read" and deed[1] not in bags:
        return "waiting"
    return "counted"


def pages_that_are(book, standing):
    """The pages of the book that stand so, in order."""
    gone = named_by_voids(book)
    bags = counted_bags(book)
    return [page for page in book if standing_of(page, gone, bags) == standing]


def counted_pages(book):
    """The counted pages of the book, in order."""
    return pages_that_are(book, "counted")


def counted(book):
    """The names of the counted pages."""
    return tuple([name for name, deed in counted_pages(book)])


def waiting(book):
    """The names of the reads that wait for their bag."""
    return tuple([name for name, deed in pages_that_are(book, "waiting")])


def voided(book):
    """The names of the pages, voids left out, that a void names."""
    return tuple([name for name, deed in pages_that_are(book, "voided")])


def until(book, day):
    """The book of the pages whose day is at most this one."""
    return tuple([page for page in book if page[0][0] <= day])


def joined(one, other):
    """The book of the pages of both."""
    return book_of(list(one) + list(other))
