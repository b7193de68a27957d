"""The refusals: each keeps the very things that it was made of."""


class NoteError(ValueError):
    """Any refusal."""


class NoNumber(NoteError):
    """There is nothing of this number, or at this place."""

    def __init__(self, number):
        self.number = number


class NoStars(NoteError):
    """There are so many stars too few."""

    def __init__(self, many):
        self.many = many


class NoRow(NoteError):
    """The row is at fault at this place."""

    def __init__(self, place):
        self.place = place


class NoPage(NoteError):
    """The page of this name can't be taken; word says why."""

    def __init__(self, word, name):
        self.word = word
        self.name = name


class NoPaper(NoteError):
    """The thing is no right paper; word and place say why and where."""

    def __init__(self, word, place):
        self.word = word
        self.place = place


class NoWorld(NoteError):
    """No world of the book is there; word says why."""

    def __init__(self, word):
        self.word = word


class NoBack(NoteError):
    """There is no telling to take back."""

    def __init__(self):
        pass


class NoText(NoteError):
    """The text can't be read from this word of this row on."""

    def __init__(self, row, word):
        self.row = row
        self.word = word


class NoLine(NoteError):
    """The line is none that a desk knows."""

    def __init__(self, line):
        self.line = line
