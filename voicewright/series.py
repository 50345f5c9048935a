"""Series: all twelve in a row, its forms, and what they share."""

from voicewright.errors import BadSize
from voicewright.notes import class_of

KINDS = ("plain", "back", "turned", "back turned")


def check_series(row):
    """Return a row of all twelve, each once; BadSize."""
    if sorted(row) != list(range(12)):
        raise BadSize("a series has all twelve, each once")
    return tuple(row)


def form(row, kind, steps):
    """Return a form: "plain", "back", "turned" or "back turned", so many half steps up; BadSize for another kind."""
    found = check_series(row)
    if kind not in KINDS:
        raise BadSize("no kind of a form")
    first = found[0]
    if kind in ("turned", "back turned"):
        found = tuple([2 * first - one for one in found])
    if kind in ("back", "back turned"):
        found = found[::-1]
    return tuple([class_of(one + steps) for one in found])


def ways_to_tell():
    """Return (kind, steps) of all forms, kinds in order."""
    return [(kind, steps) for kind in KINDS for steps in range(12)]


def all_forms_of(row):
    """Return (kind, steps, form) of each form, kinds in order, each form once, by the first that has it."""
    first = {}
    for kind, steps in ways_to_tell():
        first.setdefault(form(row, kind, steps), (kind, steps))
    return tuple([(kind, steps, found) for found, (kind, steps) in first.items()])


def square(row):
    """Return the twelve plain forms that begin as the turned form goes, one behind the other."""
    found = check_series(row)
    return tuple([form(found, "plain", one - found[0]) for one in form(found, "turned", 0)])


def steps_in(row):
    """Return the half steps up, below twelve, from each to the next."""
    found = check_series(row)
    return tuple([class_of(after - one) for one, after in zip(found, found[1:])])


def has_all_steps(row):
    """Tell whether a row has each step from one to eleven."""
    return sorted(steps_in(row)) == list(range(1, 12))


def which(row, other):
    """Return the first (kind, steps) by which another row is a form, None for none."""
    wanted = tuple(other)
    for kind, steps, found in all_forms_of(row):
        if found == wanted:
            return (kind, steps)
    return None


def fits_halves(row, kind, steps):
    """Tell whether a form's first half has just the classes of the row's second half."""
    return sorted(form(row, kind, steps)[:6]) == sorted(row[6:])


def all_fits(row):
    """Return all (kind, steps) whose first half fits the row's second, in order."""
    return tuple([(kind, steps) for kind, steps in ways_to_tell() if fits_halves(row, kind, steps)])


def places_alike(row, kind, steps):
    """Return the places at which a form has the row's own class."""
    found = form(row, kind, steps)
    return tuple([place for place in range(12) if found[place] == row[place]])


def from_step_row(start, steps):
    """Return the row, a tuple, of a first class and eleven steps; BadSize where one comes twice."""
    found = [start]
    for step in steps:
        found.append(class_of(found[-1] + step))
    return check_series(found)


def same_order(one, other):
    """Return the longest tuple of classes of one row that come in its order in the other, the least of those;
    BadSize."""
    row = check_series(one)
    there = check_series(other)
    # From each class on, (minus how many, the classes): the least of these is the longest, then the least row.
    best = {}
    for place in range(11, -1, -1):
        here = row[place]
        behind = [best[after] for after in row[place + 1:] if there.index(after) > there.index(here)]
        less, part = min([(0, ()), *behind])
        best[here] = (less - 1, (here, *part))
    return min(best.values())[1]
