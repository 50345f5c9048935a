"""Beats: rows of struck and unstruck places that go round, evenly spread ones, and how many there are."""

from itertools import combinations
from math import comb, gcd

from voicewright.errors import BadSize


def even(struck, many):
    """Return a row of so many places with some struck, as even as can be: place p where its share of strokes grows."""
    if not 0 <= struck <= many or many < 1:
        raise BadSize("no row has so many strokes and places")
    return tuple([1 if place * struck % many < struck else 0 for place in range(many)])


def strokes(row):
    """Return the places that are struck."""
    return tuple([place for place, one in enumerate(row) if one])


def gaps(row):
    """Return how far it is from each stroke to the next, round to the first."""
    places = strokes(row)
    if places == ():
        return ()
    return tuple([there - here for here, there in zip(places, (*places[1:], places[0] + len(row)))])


def turned_row(row, by):
    """Return a row, a tuple, that begins so many places later."""
    start = by % max(len(row), 1)
    return (*row[start:], *row[:start])


def turns_of(row):
    """Return a row's turns, by each number of places from nought on."""
    return [turned_row(row, by) for by in range(max(len(row), 1))]


def same_round(one, other):
    """Return the least turn that makes one row another, None for none."""
    turns = turns_of(one)
    return turns.index(tuple(other)) if tuple(other) in turns else None


def is_even(row):
    """Tell whether strokes lie as even as can be: any so many gaps on end take one of two neighbouring lengths."""
    places = strokes(row)
    twice = [*places, *[place + len(row) for place in places]]
    for many in range(1, len(places)):
        longs = [twice[k + many] - twice[k] for k in range(len(places))]
        if max(longs) - min(longs) > 1:
            return False
    return True


def all_rows(struck, many):
    """Return all rows of so many places with so many struck, in order; BadSize past twelve."""
    if many > 12:
        raise BadSize("all rows are told of up to twelve places")
    if not 0 <= struck <= many:
        return ()
    rows = []
    for places in combinations(range(many), struck):
        rows.append(tuple([1 if place in places else 0 for place in range(many)]))
    return tuple(sorted(rows))


def least_turn(row):
    """Return the least of a row's turns, a tuple."""
    return min(turns_of(row))


def rounds(struck, many):
    """Return all rows that are the least of their turns, in order."""
    return tuple([row for row in all_rows(struck, many) if least_turn(row) == row])


def shared_by(one, other):
    """Return the greatest number that goes into both."""
    return gcd(one, other)


def choose(many, few):
    """Return in how many ways few can be taken of many."""
    return comb(many, few) if 0 <= few <= many else 0


def how_many_rounds(struck, many):
    """Return how many rows there are but for turns: the middle number of those that turns leave alone; BadSize."""
    if many < 1:
        raise BadSize("a row has a place at least")
    alone = 0
    for by in range(many):
        # A turn takes each place round through so many others, and leaves a row alone where all of these are as it is.
        circles = shared_by(by, many)
        if struck % (many // circles) == 0:
            alone += choose(circles, struck // (many // circles))
    return alone // many


def both_struck(one, other):
    """Return the places, of both rows' least common length, at which both are struck; BadSize for bare ones."""
    if len(one) == 0 or len(other) == 0:
        raise BadSize("a bare row")
    whole = len(one) * len(other) // shared_by(len(one), len(other))
    return tuple([place for place in range(whole) if one[place % len(one)] and other[place % len(other)]])


def off(row, strong):
    """Return how many strokes of a row lie where none of a strong row's does, and the next strong one isn't struck."""
    found = 0
    for place in strokes(row):
        # What comes behind a place, round to it again; a stroke on a strong place is on its own next strong one.
        behind = [place + k for k in range(len(strong)) if strong[(place + k) % len(strong)]]
        if behind != [] and not row[behind[0] % len(row)]:
            found += 1
    return found


def against(one, other):
    """Return the rows, of one length, of two counts of strokes even against each other; BadSize below one."""
    if one < 1 or other < 1:
        raise BadSize("a row has a stroke at least")
    whole = one * other // shared_by(one, other)
    return (even(one, whole), even(other, whole))
