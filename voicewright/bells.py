"""Bells: rows of bells rung by changes of neighbours, no row twice, and whole extents."""

from voicewright.errors import BadPaper, BadSize


def rounds_of(many):
    """Return the bells in order; BadSize out of one to seven."""
    if not 1 <= many <= 7:
        raise BadSize("there are one to seven bells")
    return tuple(range(many))


def check_change(change, many):
    """Return a change, in order: places whose bell is exchanged with the next one's, apart from each other; BadSize."""
    found = sorted(change)
    if any(not 0 <= place < many - 1 for place in found):
        raise BadSize("no such place to change")
    if any(after - place < 2 for place, after in zip(found, found[1:])):
        raise BadSize("a bell changes with one neighbour")
    return tuple(found)


def rung(row, change):
    """Return a row behind a change; BadSize."""
    found = list(row)
    for place in check_change(change, len(row)):
        found[place], found[place + 1] = found[place + 1], found[place]
    return tuple(found)


def all_rung(start, changes):
    """Return all rows rung by changes, the first one too."""
    rows = [tuple(start)]
    for change in changes:
        rows.append(rung(rows[-1], change))
    return tuple(rows)


def twice(rows):
    """Return the first (earlier, later) places of a row that comes twice, by the later one; None where none does."""
    first = {}
    for place, row in enumerate(rows):
        if tuple(row) in first:
            return (first[tuple(row)], place)
        first[tuple(row)] = place
    return None


def is_true(many, changes):
    """Tell whether changes from the bells in order ring no row twice but perhaps the first one at the end."""
    rows = all_rung(rounds_of(many), changes)
    return twice(rows) in (None, (0, len(rows) - 1))


def plain_changes(many):
    """Return changes of one pair each that ring all rows once: the last bell hunts through the rest's; BadSize."""
    changes = []
    for bell in rounds_of(many):
        changes = hunted(changes, bell)
    return tuple(changes)


def hunted(changes, bell):
    """Return changes by which one bell more, behind so many, hunts down and up through all rows of the rest's."""
    down = [(place,) for place in range(bell - 1, -1, -1)]
    found = list(down)
    is_first = True
    for change in changes:
        # The rest stand a place later while the hunting bell is the first one.
        found.append((change[0] + 1,) if is_first else change)
        found.extend(down[::-1] if is_first else down)
        is_first = not is_first
    return found


def factorial(many):
    """Return how many rows so many bells have."""
    found = 1
    for count in range(2, many + 1):
        found *= count
    return found


def check_extent(many, changes):
    """Return how many rows changes ring where they ring all, each once; BadPaper."""
    rows = all_rung(rounds_of(many), changes)
    if twice(rows) is not None or len(rows) != factorial(many):
        raise BadPaper("changes that don't ring all rows, each once")
    return len(rows)


def all_changes(many):
    """Return all changes of so many bells, the one that changes nothing first, then in order."""
    found = [()]
    for place in range(many - 1):
        found = found + [(*change, place) for change in found if place - 1 not in change]
    return tuple(sorted(found))


def back_to_rounds(many, lead):
    """Return how often a lead is rung till the bells are in order again; BadSize."""
    start = rounds_of(many)
    row = all_rung(start, lead)[-1]
    often = 1
    while row != start:
        row = all_rung(row, lead)[-1]
        often += 1
    return often


def falls(row):
    """Return how many pairs of bells stand the other way round."""
    return len([one for place, one in enumerate(row) for other in row[place + 1:] if one > other])


def path_of(rows, bell):
    """Return the places at which a bell rings, row by row; BadSize for one that doesn't."""
    if any(bell not in row for row in rows):
        raise BadSize("no such bell")
    return tuple([row.index(bell) for row in rows])
