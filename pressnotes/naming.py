"""Names turned: offices and books with other words for series, places and hands, or with other days."""


def renamed(office, words):
    """The office with its series and places turned, its worths and roads rising anew."""
    of_series, of_places, of_hands = words
    worths = [(of_series.get(series, series), worth) for series, worth in office[0]]
    roads = [(of_places.get(start, start), of_places.get(end, end)) for start, end in office[1]]
    return (tuple(sorted(worths)), tuple(sorted(roads)))


def renamed_name(name, words):
    """The NAME with its hand turned."""
    day, number, hand = name
    return (day, number, words[2].get(hand, hand))


def renamed_runs(runs, words):
    """The RUNS with their series turned, rising anew."""
    return tuple(sorted([(words[0].get(series, series), low, high) for series, low, high in runs]))


def renamed_deed(deed, words):
    """The deed with all words in it turned."""
    word = deed[0]
    if word == "void":
        return (word, renamed_name(deed[1], words))
    if word == "read":
        return (word, renamed_name(deed[1], words), renamed_runs(deed[2], words))
    start = words[1].get(deed[1], deed[1])
    if word == "count":
        return (word, start, deed[2])
    end = words[1].get(deed[2], deed[2])
    if word == "bag":
        return (word, start, end, deed[3])
    return (word, start, end, renamed_runs(deed[3], words))


def renamed_book(book, words):
    """The book with all words in it turned, its pages rising anew."""
    return tuple(sorted([(renamed_name(name, words), renamed_deed(deed, words)) for name, deed in book]))


def moved_name(name, days):
    """The NAME so many days later."""
    return (name[0] + days, name[1], name[2])


def moved_deed(deed, days):
    """The deed with the NAME in it, where there is one, so many days later."""
    if deed[0] == "read" or deed[0] == "void":
        return (deed[0], moved_name(deed[1], days)) + deed[2:]
    return deed


def moved_days(book, days):
    """The book with all its days so many later, or, below 0, earlier."""
    return tuple([(moved_name(name, days), moved_deed(deed, days)) for name, deed in book])
