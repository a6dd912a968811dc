"""Rooms: how many whole numbers there are below and between held values, None for as many as one likes."""


def rooms_between(values):
    """The rooms of held values, ascending with the value below all in front."""
    return tuple([high - low - 1 for low, high in zip(values, values[1:])])


def at_least(rooms, others):
    """True if each of the rooms is at least the other one."""
    return all([room is None or other is not None and room >= other for room, other in zip(rooms, others)])


def rooms_behind(step, rooms):
    """All rooms that can be there after the step, a list; empty if there is no room for its spot."""
    return rooms_left(step.spot, step.kept, rooms)


def rooms_left(spot, kept, rooms):
    """All rooms that can be there after a value at the spot, if the kept spots are held then, a list."""
    names = [2 * rank + 1 for rank in range(len(rooms))]
    if spot % 2 == 1:
        return [_joined(names, rooms, kept)]
    at = spot // 2
    names.insert(at, spot)
    if at == len(rooms):
        return [_joined(names, (*rooms, None), kept)]
    parts = _parts(rooms[at])
    if spot not in kept:
        # The parts become one room again, however the value parts it.
        parts = parts[:1]
    return [_joined(names, (*rooms[:at], *part, *rooms[at + 1:]), kept) for part in parts]


def _parts(room):
    """The pairs of rooms that a new value leaves of a room."""
    if room is None:
        return [(None, None)]
    return [(low, room - 1 - low) for low in range(room)]


def _joined(names, rooms, kept):
    """The rooms below the kept names, those of the other ones joined to the next above."""
    behind = []
    below = 0
    for name, room in zip(names, rooms):
        below = None if below is None or room is None else below + room
        if name in kept:
            behind.append(below)
            below = 0
        elif below is not None:
            below += 1
    return tuple(behind)


def widened(rooms, asked):
    """Rooms that are at least these and that none of the asked gaps finds; none finds these.

    No one of them could be greater.
    """
    wide = list(rooms)
    for at in range(len(wide)):
        least = [_least_room(wide, at, gaps) for gaps in asked]
        limits = [room - 1 for room in least if room is not None]
        wide[at] = min(limits, default=None)
    return tuple(wide)


def _least_room(rooms, at, gaps):
    """The least room at this place with which the gaps are there, None if no room is enough."""
    least = 0
    for high, row in enumerate(gaps):
        for low, gap in enumerate(row):
            within = low <= at < high
            others = [rooms[place] for place in range(low, high) if place != at]
            if None in others:
                continue
            missing = gap - sum(others) - (high - low)
            if within:
                least = max(least, missing)
            elif missing > 0:
                return None
    return least
