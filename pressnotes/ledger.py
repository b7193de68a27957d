"""A ledger: pages told one by one, taken back, and taken in from other ledgers."""

from pressnotes.books import book_of
from pressnotes.errors import NoBack, NoNumber, NoPage
from pressnotes.pages import is_page


def is_new(office, pages, page):
    """Whether the page is none of the pages; refused where it is no page or another one has its name."""
    if not is_page(office, page):
        raise NoPage("kind", None)
    for other in pages:
        if other[0] == page[0]:
            if other != page:
                raise NoPage("other", page[0])
            return False
    return True


class Ledger:
    """The pages told of an office, in the order in which they were told."""

    def __init__(self, office):
        self.office = office
        self.tellings = []

    def tell(self, page):
        """Takes a page: "new", or "again" where the very page is there."""
        if not is_new(self.office, self.tellings, page):
            return "again"
        self.tellings.append(page)
        return "new"

    def back(self):
        """Takes the last telling back and tells its name."""
        if not self.tellings:
            raise NoBack()
        page = self.tellings.pop()
        return page[0]

    def book(self):
        """The BOOK of all tellings."""
        return book_of(self.tellings)

    def then(self, k):
        """The BOOK behind the first k tellings."""
        if k < 0 or k > len(self.tellings):
            raise NoNumber(k)
        return book_of(self.tellings[:k])

    def told(self):
        """How many tellings there are."""
        return len(self.tellings)

    def take_in(self, other):
        """Is told the tellings of the other ledger, all or none; tells how many were new."""
        # They are told to a copy, so that nothing is changed where one of them is refused.
        pages = list(self.tellings)
        for page in list(other.tellings):
            if is_new(self.office, pages, page):
                pages.append(page)
        many = len(pages) - len(self.tellings)
        self.tellings = pages
        return many
