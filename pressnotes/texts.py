"""Texts: how runs, rows, names, pages and books are written."""


def shown_run(run):
    """A run as its first note and, of several, the number of its last one."""
    series, low, high = run
    if high == low + 1:
        return f"{series}:{low}"
    return f"{series}:{low}-{high - 1}"


def shown_row(row):
    """The pieces of a ROW in their order."""
    return ",".join([shown_run(piece) for piece in row])


def shown_runs(runs):
    """RUNS, a dash of none."""
    if not runs:
        return "-"
    return shown_row(runs)


def shown_name(name):
    """A NAME as day, number and hand."""
    day, number, hand = name
    return f"{day}.{number}.{hand}"


def shown_deed(deed):
    """The words of a deed."""
    word = deed[0]
    if word == "move":
        return [word, deed[1], deed[2], shown_runs(deed[3])]
    if word == "bag":
        return [word, deed[1], deed[2], str(deed[3])]
    if word == "read":
        return [word, shown_name(deed[1]), shown_runs(deed[2])]
    if word == "count":
        return [word, deed[1], str(deed[2])]
    return [word, shown_name(deed[1])]


def shown_page(page):
    """A page as words parted by single blanks."""
    name, deed = page
    return " ".join([shown_name(name)] + shown_deed(deed))


def shown_book(book):
    """A book as a list of texts, one for each page."""
    return [shown_page(page) for page in book]
