"""Steps: how far notes are apart, which go together, and how lines move."""

from voicewright.errors import BadSize

PERFECT = (0, 7)
SOFT = (3, 4, 8, 9)


def size(one, other):
    """Return the half steps between two notes."""
    return abs(other - one)


def simple(one, other):
    """Return the half steps between two notes without whole octaves."""
    return size(one, other) % 12


def goes_together(low, high):
    """Tell whether two notes go together: nought, three, four, seven, eight or nine half steps but for octaves."""
    apart = simple(low, high)
    return apart in PERFECT or apart in SOFT


def is_perfect(low, high):
    """Tell whether two notes are a unison, an octave or a fifth apart, but for octaves."""
    return simple(low, high) in PERFECT


def is_step(one, other):
    """Tell whether a line moves by one or two half steps."""
    return 1 <= size(one, other) <= 2


def is_leap(one, other):
    """Tell whether a line moves by more than four half steps."""
    return size(one, other) > 4


def way_of(one, other):
    """Return one for up, minus one for down, nought for staying."""
    if other > one:
        return 1
    return -1 if other < one else 0


def motion(low, low_next, high, high_next):
    """Return how two lines move: "still", "one", "apart" (against each other), "along" (by unlike sizes) or "alike"."""
    low_way = way_of(low, low_next)
    high_way = way_of(high, high_next)
    if low_way == 0 and high_way == 0:
        return "still"
    if low_way == 0 or high_way == 0:
        return "one"
    if low_way != high_way:
        return "apart"
    return "alike" if size(low, low_next) == size(high, high_next) else "along"


def goes_one_way(low, low_next, high, high_next):
    """Tell whether two lines both go up or both go down."""
    return motion(low, low_next, high, high_next) in ("along", "alike")


def runs_alike(low, low_next, high, high_next):
    """Tell whether two lines move from one perfect sound to another of one kind, both moving."""
    if low == low_next or high == high_next:
        return False
    return is_perfect(low, high) and simple(low, high) == simple(low_next, high_next)


def falls_into(low, low_next, high, high_next):
    """Tell whether two lines move one way into a perfect sound, the second one by more than a step."""
    if not is_perfect(low_next, high_next) or is_step(high, high_next):
        return False
    return goes_one_way(low, low_next, high, high_next)


def inverted(steps):
    """Return a simple interval turned over; BadSize for one that isn't."""
    if not 0 <= steps < 12:
        raise BadSize("a simple interval has less than twelve half steps")
    return (12 - steps) % 12


def shape(tune):
    """Return one, minus one or nought for each move of a tune."""
    return tuple([way_of(one, other) for one, other in zip(tune, tune[1:])])


def moves(tune):
    """Return the half steps of each move of a tune, below nought down."""
    return tuple([other - one for one, other in zip(tune, tune[1:])])


def span(tune):
    """Return the half steps from a tune's lowest to its highest note; BadSize for none."""
    if len(tune) == 0:
        raise BadSize("a bare tune has no span")
    return max(tune) - min(tune)


def top_places(tune):
    """Return the places at which a tune is highest."""
    top = max(tune, default=None)
    return tuple([place for place, note in enumerate(tune) if note == top])
