"""Motives: where a short tune stands in a long one, as it is, moved, turned over, backwards or stretched."""

from voicewright.errors import BadSize
from voicewright.steps import moves, shape


def starts(motive, tune):
    """Return the places of a tune from which as many notes are there as a motive has."""
    return list(range(len(tune) - len(motive) + 1))


def check_motive(motive):
    """Refuse a bare motive with BadSize."""
    if len(motive) == 0:
        raise BadSize("a motive has a note at least")


def negated(row):
    """Return a row's numbers taken from nought."""
    return tuple([0 - one for one in row])


def places_of(motive, tune):
    """Return the places at which a motive stands in a tune as it is."""
    wanted = tuple(motive)
    return tuple([place for place in starts(motive, tune) if tuple(tune[place:place + len(wanted)]) == wanted])


def moved_places(motive, tune):
    """Return (place, half steps up) at which a motive stands moved; BadSize for a bare one."""
    check_motive(motive)
    wanted = moves(motive)
    row = moves(tune)
    return tuple([(place, tune[place] - motive[0]) for place in starts(motive, tune)
                  if row[place:place + len(wanted)] == wanted])


def turned_places(motive, tune):
    """Return (place, twice the middle) at which a motive stands turned over; BadSize for a bare one."""
    check_motive(motive)
    wanted = negated(moves(motive))
    row = moves(tune)
    return tuple([(place, tune[place] + motive[0]) for place in starts(motive, tune)
                  if row[place:place + len(wanted)] == wanted])


def back_places(motive, tune):
    """Return (place, half steps up) at which a motive stands from its end on, moved."""
    return moved_places(motive[::-1], tune)


def shaped_places(motive, tune):
    """Return the places at which a tune goes up and down as a motive does; BadSize for a bare one."""
    check_motive(motive)
    wanted = shape(motive)
    row = shape(tune)
    return tuple([place for place in starts(motive, tune) if row[place:place + len(wanted)] == wanted])


def ends_from(motive, tune, gap, steps):
    """Return, for each note of a motive moved by steps, a table of the places from which it and all behind it stand."""
    found = []
    for note in motive[::-1]:
        here = {}
        for place in range(len(tune)):
            if tune[place] - note == steps and (found == [] or next_place(found[-1], tune, place, gap) is not None):
                here[place] = True
        found.append(here)
    return found[::-1]


def next_place(table, tune, place, gap):
    """Return the nearest place of a table behind one, a gap of others between at most, None for none."""
    for there in range(place + 1, min(place + gap + 2, len(tune))):
        if there in table:
            return there
    return None


def spread_within(motive, tune, gap):
    """Return the tuple of the first places of a motive's notes in a tune, moved, a gap of others between at most;
    None for none, () for a bare motive."""
    if len(motive) == 0:
        return ()
    for place, note in enumerate(tune):
        tables = ends_from(motive, tune, gap, note - motive[0])
        if place in tables[0]:
            row = [place]
            for table in tables[1:]:
                row.append(next_place(table, tune, row[-1], gap))
            return tuple(row)
    return None


def longest_again(tune):
    """Return (how many moves, first place, second place) of the longest part that comes again moved, the first;
    or None."""
    row = moves(tune)
    best = (0, 0, 0)
    ahead = [0] * (len(row) + 1)
    for first in range(len(row) - 1, -1, -1):
        here = [0] * (len(row) + 1)
        for second in range(len(row) - 1, first, -1):
            if row[first] == row[second]:
                here[second] = ahead[second + 1] + 1
                best = min(best, (0 - here[second], first, second))
        ahead = here
    return (0 - best[0], best[1], best[2]) if best[0] < 0 else None


def all_motives(tune, long):
    """Return (moves, places) of all rows of so many moves that come twice or more, in order of their first places."""
    if long < 1:
        raise BadSize("a part has one move at least")
    row = moves(tune)
    found = {}
    for place in range(len(row) - long + 1):
        found.setdefault(row[place:place + long], []).append(place)
    return tuple([(part, tuple(places)) for part, places in found.items() if len(places) > 1])


def covered(tune, motive):
    """Return how many notes of a tune stand in places of a motive, moved."""
    return len({place + k for place, _ in moved_places(motive, tune) for k in range(len(motive))})


def alike(one, other):
    """Return how one tune is another: "moved", "turned", "back", "back turned", the first that holds, None for
    none."""
    if len(one) == 0 or len(other) == 0:
        return None
    row = moves(one)
    back = moves(one[::-1])
    ways = (("moved", row), ("turned", negated(row)), ("back", back), ("back turned", negated(back)))
    for word, way in ways:
        if way == moves(other):
            return word
    return None
