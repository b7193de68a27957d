"""What leads where: the places that roads lead to, and the shortest rows of roads."""

from pressnotes.offices import places_of


def rows_from(office, place):
    """For each place that the place comes to a row of roads there, with the fewest places, by places."""
    rows = {place: (place,)}
    found = [place]
    at = 0
    # Places are looked at in the order in which they are found, so the nearer ones come first.
    while at < len(found):
        for start, end in office[1]:
            if start == found[at] and end not in rows:
                rows[end] = rows[start] + (end,)
                found.append(end)
        at += 1
    return rows


def reach(office, place):
    """The SET of the places that the place comes to, itself among them."""
    return tuple(sorted(rows_from(office, place)))


def all_reaches(office):
    """For each place of the office the SET of those that it comes to."""
    return {place: reach(office, place) for place in places_of(office)}


def road_row(office, one, other):
    """A ROW OF ROADS from the one to the other with the fewest places, or None."""
    return rows_from(office, one).get(other)


def far(office, one, other):
    """How many roads the shortest row from the one to the other has, or None."""
    row = road_row(office, one, other)
    if row is None:
        return None
    return len(row) - 1
