"""The order of the pieces at a place, and the rings that leave none."""

from hookhall.errors import Ring


def order(hall, place):
    return order_among(hall, hall.at(place))


def order_among(hall, names):
    # The names are to be handed in as they came: of those that may stand next, the first is the earliest.
    seconds = seconds_of(hall, names)
    left = list(names)
    row = []
    while left:
        name = earliest_free(seconds, left)
        if name is None:
            raise Ring(shortest_ring(seconds))
        left.remove(name)
        row.append(name)
    return row


def seconds_of(hall, names):
    # All pairs, as a dict that has for each first a dict of its seconds.
    seconds = {}
    for name in names:
        seconds[name] = {}
    for name in names:
        piece = hall.find_piece(name)
        for other in piece.ahead:
            if other in seconds:
                seconds[name][other] = True
        for other in piece.behind:
            if other in seconds:
                seconds[other][name] = True
    return seconds


def earliest_free(seconds, left):
    for name in left:
        if not any([name in seconds[first] for first in left]):
            return name
    return None


def shortest_ring(seconds):
    rings = [ring_through(seconds, name) for name in seconds]
    return min([ring for ring in rings if ring], key=len)


def ring_through(seconds, start):
    # Rows grow by one name a turn, so that the first that comes back to its start is a shortest one.
    rows = [[start]]
    reached = {start: True}
    while rows:
        longer = []
        for row in rows:
            for second in seconds[row[-1]]:
                if second == start:
                    return row
                if second not in reached:
                    reached[second] = True
                    longer.append(row + [second])
        rows = longer
    return []
