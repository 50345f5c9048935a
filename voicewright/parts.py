"""Parts: exact lengths and times, (top, low) made small."""

from math import gcd, lcm

from voicewright.errors import BadTime


def shared(one, other):
    """Return the greatest number that goes into both."""
    return gcd(one, other)


def part(top, low=1):
    """Return a part made small, its low above nought; BadTime by nought."""
    if low == 0:
        raise BadTime("a part by nought")
    by_both = shared(top, low)
    if low < 0:
        by_both = -by_both
    return (top // by_both, low // by_both)


def plus(one, other):
    """Return the sum of two parts."""
    return part(one[0] * other[1] + other[0] * one[1], one[1] * other[1])


def minus(one, other):
    """Return the difference of two parts."""
    return plus(one, (-other[0], other[1]))


def times(one, other):
    """Return the product of two parts."""
    return part(one[0] * other[0], one[1] * other[1])


def by(one, other):
    """Return a part by another; BadTime by nought."""
    return part(one[0] * other[1], one[1] * other[0])


def is_less(one, other):
    """Tell whether a part is less than another."""
    return one[0] * other[1] < other[0] * one[1]


def least(one, other):
    """Return the lesser of two parts."""
    return tuple(other) if is_less(other, one) else tuple(one)


def greatest(one, other):
    """Return the greater of two parts."""
    return tuple(other) if is_less(one, other) else tuple(one)


def whole_below(one):
    """Return the greatest whole number that isn't above a part."""
    return one[0] // one[1]


def total(parts):
    """Return the sum of parts."""
    found = (0, 1)
    for one in parts:
        found = plus(found, one)
    return found


def rest_by(one, other):
    """Return what is left of a part by another, from nought on and below it; BadTime by nought."""
    return minus(one, times(other, part(whole_below(by(one, other)))))


def in_order(parts):
    """Return parts in order, by putting each in its place."""
    found = []
    for one in parts:
        place = len(found)
        while place > 0 and is_less(one, found[place - 1]):
            place -= 1
        found.insert(place, tuple(one))
    return tuple(found)


def check_length(one):
    """Return a length, a part above nought; BadTime."""
    top, low = part(one[0], one[1])
    if top <= 0:
        raise BadTime("a length is above nought")
    return (top, low)


def as_wholes(parts):
    """Return parts, in their order, as whole numbers of one unit that goes into all."""
    # Whole numbers are put in order and compared much faster than parts.
    unit = 1
    for one in parts:
        unit = lcm(unit, one[1])
    return [one[0] * (unit // one[1]) for one in parts]
