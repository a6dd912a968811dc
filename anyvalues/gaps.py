"""Gaps: how far apart held values must be, so that later values find room below and between them.

Points are spots in ascending order, with BASE in front, which stands for the value -1 below all.
Gaps over points are a tuple: for each point the least differences to each of the points before it.
"""

# The spot and the value of the point below all: values are from 0 on.
BASE = -1

# Over BASE alone: nothing is asked of any held values but their order.
NO_GAPS = ((),)


def _points(many, spot):
    """The points of so many held values and of the new value."""
    points = [2 * rank + 1 for rank in range(-1, many)]
    if spot % 2 == 0:
        points.insert(_place_of_new(spot), spot)
    return points


def _place_of_new(spot):
    """The number of the point of a new value that no register holds."""
    return spot // 2 + 1


def _widened(points, kept, gaps):
    """Gaps over the points, lists, such that those over the kept points are at least as told."""
    least = {}
    names = (BASE, *kept)
    for high, row in enumerate(gaps):
        for low, gap in enumerate(row):
            least[(names[low], names[high])] = gap
    rows = []
    for high, name in enumerate(points):
        row = [max(high - low, least.get((points[low], name), 0)) for low in range(high)]
        rows.append(_added_up(row, rows))
    return rows


def _added_up(row, rows):
    """The gaps of a point such that each is at least the sum of any two that lead over a point between."""
    sums = list(row)
    for low in reversed(range(len(row))):
        for between in range(low + 1, len(row)):
            sums[low] = max(sums[low], sums[between] + rows[between][low])
    return sums


def gaps_before(many, spot, kept, gaps):
    """The gaps over many held values that leave room for a new value at the spot and the gaps behind it.

    Behind it the kept spots are held, with the gaps over them.
    """
    rows = _widened(_points(many, spot), kept, gaps)
    if spot % 2 == 0:
        new = _place_of_new(spot)
        rows = rows[:new] + [row[:new] + row[new + 1:] for row in rows[new + 1:]]
    return tuple([tuple(row) for row in rows])


def weaker(one, other):
    """True if the first gaps ask at most what the other ones ask."""
    for lows, highs in zip(one, other):
        for low, high in zip(lows, highs):
            if low > high:
                return False
    return True


def gaps_there(values, gaps):
    """True if the values, ascending with BASE in front, are as far apart as the gaps ask."""
    for high, row in enumerate(gaps):
        for low, gap in enumerate(row):
            if values[high] - values[low] < gap:
                return False
    return True


def with_gaps(found, gaps):
    """The list of gaps with these ones too, without those that ask more than some others in it."""
    if any(weaker(other, gaps) for other in found):
        return found
    return [other for other in found if not weaker(gaps, other)] + [gaps]


def least_value(values, spot, kept, gaps):
    """The least value at the spot that leaves the gaps over the kept spots, or None.

    values are those that are held, ascending, with BASE in front.
    """
    rows = _widened(_points(len(values) - 1, spot), kept, gaps)
    new = _place_of_new(spot)
    if spot % 2 == 0:
        value = max([values[low] + gap for low, gap in enumerate(rows[new])])
        worths = (*values[:new], value, *values[new:])
    else:
        value = values[new]
        worths = values
    return value if gaps_there(worths, rows) else None


def values_behind(values, spot, value, kept):
    """The held values behind an entry, ascending, with BASE in front."""
    held = [value if name == spot else values[_place_of_new(name)] for name in kept]
    return (BASE, *held)
