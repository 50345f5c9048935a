"""Leads: how notes of one chord go to those of another by the fewest half steps."""

from voicewright.chords import classes, has_all
from voicewright.errors import BadPaper, BadSize
from voicewright.notes import class_of
from voicewright.steps import size, way_of

MOST_ROWS = 20000


def check_rows(one, other):
    """Refuse with BadSize rows of unlike lengths."""
    if len(one) != len(other):
        raise BadSize("rows of unlike lengths")


def cost_of(one, other):
    """Return the half steps of notes that go to those at their places."""
    check_rows(one, other)
    return sum([size(here, there) for here, there in zip(one, other)])


def straight(one, other):
    """Return the notes of another row in the order of the first one's: sorted to sorted, nothing goes less in all."""
    check_rows(one, other)
    places = [place for _, place in sorted([(note, place) for place, note in enumerate(one)])]
    found = list(one)
    for place, note in zip(places, sorted(other)):
        found[place] = note
    return tuple(found)


def least_steps(one, other):
    """Return the fewest half steps by which notes of a row go to those of another, each to one."""
    return cost_of(one, straight(one, other))


def crossing(one, other):
    """Return (place of the lower note, place of the upper one) whose notes change over when they go, in order."""
    check_rows(one, other)
    return tuple([(low, high) for low in range(len(one)) for high in range(len(one))
                  if one[low] < one[high] and other[low] > other[high]])


def weights(one, other):
    """Return (weights of the first row's notes, of the other's): no pair's above its size, in all the least steps."""
    # A note's weight falls on the way up where more notes have to go up than down, and rises where more go down;
    # so it never changes by more than the half steps on the way, and by just these where notes go that way.
    table = {}
    weight = 0
    going_up = 0
    last = 0
    for note in sorted(set([*one, *other])):
        weight -= way_of(0, going_up) * (note - last)
        table[note] = weight
        going_up += one.count(note) - other.count(note)
        last = note
    return (tuple([table[note] for note in one]), tuple([0 - table[note] for note in other]))


def check_weights(one, other, papers):
    """Return the steps that weights show to be needed: no pair's weights above its half steps; BadPaper."""
    check_rows(one, other)
    mine, theirs = papers
    if len(mine) != len(one) or len(theirs) != len(other):
        raise BadPaper("another count of weights")
    for a, weight in zip(one, mine):
        if any(weight + more > size(a, b) for b, more in zip(other, theirs)):
            raise BadPaper("weights of a pair are too heavy")
    return sum(mine) + sum(theirs)


def to_chord(notes, steps, low, high):
    """Return the tuple of a chord's notes between two, one for each note by its place, all its classes, nearest
    in all, then the lowest; BadSize."""
    wanted = classes(steps)
    had = [note for note in range(low, high + 1) if class_of(note) in wanted]
    rows = [()]
    for _ in notes:
        if len(rows) * len(had) > MOST_ROWS:
            raise BadSize("too many rows of a chord's notes")
        rows = [(*row, note) for row in rows for note in had]
    best = min([(cost_of(notes, row), row) for row in rows if has_all(classes(row), wanted)], default=None)
    if best is None:
        raise BadSize("no room for all of a chord's classes")
    return best[1]


def course(rows):
    """Return rows put one behind another, each in the order by which the notes go the fewest half steps."""
    found = []
    for row in rows:
        found.append(straight(found[-1], row) if found != [] else tuple(row))
    return tuple(found)


def course_cost(rows):
    """Return the half steps of rows one behind another, as they stand."""
    return sum([cost_of(one, other) for one, other in zip(rows, rows[1:])])
