"""Spots of values among others, and values at spots.

A value at a spot between two others is taken halfway, so that as many values as the top has bits can
be put in one after the other, wherever each one goes.
"""


def spot_at(values, value):
    """The spot of the value among the values, ascending."""
    lower = len([other for other in values if other < value])
    return 2 * lower + 1 if value in values else 2 * lower


def value_at(values, spot, top):
    """A value at the spot among the values, ascending, all of them greater than 0 and less than the top."""
    at = spot // 2
    if spot % 2 == 1:
        return values[at]
    bounds = (0, *values, top)
    return (bounds[at] + bounds[at + 1]) // 2


def top_for(many):
    """A top below which there is room for so many values, put in one after the other."""
    return 1 << (many + 1)
