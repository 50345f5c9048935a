"""Grids: times put on even places, in order, moved the least in all."""

from voicewright.errors import BadPaper, BadSize, BadTime
from voicewright.parts import by, check_length, is_less, minus, plus, times, whole_below


def nearest(time, step):
    """Return the number of the nearest even place, the lower one of two as near; BadTime ahead of nought."""
    if time[0] < 0:
        raise BadTime("a time ahead of nought")
    share = by(time, check_length(step))
    number = whole_below(share)
    return number + 1 if is_less((1, 2), minus(share, (number, 1))) else number


def off_by(time, step, number):
    """Return how far a time is from an even place."""
    top, low = minus(time, times(step, (number, 1)))
    return (abs(top), low)


def ways_on(time, step, most, ahead):
    """Return (place, the least move in all to come there) of a time's places up to most that a way leads to, by the
    heights ahead of it, None at the first time."""
    found = []
    low = (0, 1) if ahead is None else None
    for number in range(most + 1):
        if low is not None:
            found.append((number, plus(low, off_by(time, step, number))))
        if ahead is not None and number in ahead:
            low = smallest([ahead[number], low if low is not None else ahead[number]])
    return found


def heights_on(rows, step, most):
    """Return, for each time, a table of places up to most to the least move in all, each place past the one ahead."""
    table = []
    ahead = None
    for time in rows:
        ahead = dict(ways_on(time, step, most, ahead))
        table.append(ahead)
    return tuple(table)


def smallest(parts):
    """Return the least of parts."""
    found = tuple(parts[0])
    for one in parts:
        if is_less(one, found):
            found = tuple(one)
    return found


def on_grid(rows, step, most):
    """Return rising places, up to most, moved the least in all, from the end back the lowest; BadSize."""
    check_length(step)
    table = heights_on(rows, step, most)
    if table == ():
        return ()
    if table[-1] == {}:
        raise BadSize("no room for all times")
    low = smallest(list(table[-1].values()))
    number = min([last for last, height in table[-1].items() if height == low])
    numbers = [number]
    for place in range(len(rows) - 1, 0, -1):
        due = minus(table[place][number], off_by(rows[place], step, number))
        number = min([before for before, height in table[place - 1].items() if before < number and height == due])
        numbers.append(number)
    return tuple(numbers[::-1])


def moved_by(rows, step, numbers):
    """Return how far times are moved in all; BadSize for places that don't rise, or another count."""
    if len(numbers) != len(rows) or any(after <= one for one, after in zip(numbers, numbers[1:])):
        raise BadSize("places rise, one for each time")
    whole = (0, 1)
    for time, number in zip(rows, numbers):
        whole = plus(whole, off_by(time, step, number))
    return whole


def check_grid(rows, step, most, numbers, table):
    """Return the move that places have and heights show to be least; BadPaper, BadSize."""
    if len(table) != len(rows) or any(not 0 <= number <= most for number in numbers):
        raise BadPaper("heights of another length, or a place out of bounds")
    ahead = None
    for time, here in zip(rows, table):
        for number, due in ways_on(time, step, most, ahead):
            if number not in here or is_less(due, here[number]):
                raise BadPaper("a place is left out or too high")
        ahead = here
    whole = moved_by(rows, step, numbers)
    if len(rows) != 0 and whole != smallest(list(table[-1].values())):
        raise BadPaper("places that aren't shown to be least")
    return whole


def swung(number, step, share):
    """Return the time of an even place whose odd ones come a share of two steps behind the even one ahead."""
    odd = number % 2
    even = times(check_length(step), (number - odd, 1))
    return plus(even, times(times(step, (2, 1)), share)) if odd else even


def unswung(time, step, share):
    """Return the even place that a swung time is, None for none."""
    two = times(check_length(step), (2, 1))
    # A time is an even place where it is whole steps of two, an odd one where it is so without the share.
    found = []
    for odd, due in ((0, by(time, two)), (1, minus(by(time, two), share))):
        if due[1] == 1:
            found.append(2 * due[0] + odd)
    return min(found, default=None)
