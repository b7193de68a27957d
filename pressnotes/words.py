"""Single words read as what they write: numbers, notes, runs, rows and names; None of a word that writes none."""

from pressnotes.kinds import is_word
from pressnotes.runs import NUMBERS, is_runs


def number_in(word, least, most):
    """The NUMBER that the word writes, where it is one from least to most."""
    # More figures than most has can't be right, and Python reads no number of thousands of figures.
    if word == "" or len(word) > len(str(most)) or not all("0" <= sign <= "9" for sign in word):
        return None
    number = int(word)
    if str(number) != word or number < least or number > most:
        return None
    return number


def note_in(word):
    """The NOTE that the word writes."""
    series, colon, figures = word.partition(":")
    number = number_in(figures, 0, NUMBERS - 1)
    if number is None or not is_word(series):
        return None
    return (series, number)


def run_in(word):
    """The RUN that the word writes."""
    head, dash, tail = word.partition("-")
    note = note_in(head)
    if note is None:
        return None
    series, low = note
    last = low
    if dash:
        # A run of one note is written without a dash, so the last number is above the first.
        last = number_in(tail, low + 1, NUMBERS - 1)
    if last is None:
        return None
    return (series, low, last + 1)


def row_in(word):
    """The ROW that the word writes."""
    pieces = [run_in(part) for part in word.split(",")]
    if None in pieces:
        return None
    return tuple(pieces)


def runs_in(word):
    """The RUNS that the word writes, a dash being none."""
    if word == "-":
        return ()
    row = row_in(word)
    return row if is_runs(row) else None


def name_in(word):
    """The NAME that the word writes."""
    parts = word.split(".")
    if len(parts) != 3:
        return None
    day = number_in(parts[0], 0, 99999)
    number = number_in(parts[1], 0, 999)
    if day is None or number is None or not is_word(parts[2]):
        return None
    return (day, number, parts[2])
