"""Rules of lines, pairs and canons said again for the tests, to try all lines by."""

import itertools


def together(low, high):
    return abs(high - low) % 12 in (0, 3, 4, 7, 8, 9)


def perfect(low, high):
    return abs(high - low) % 12 in (0, 7)


def way(one, other):
    return (other > one) - (other < one)


def alike(low, low_next, high, high_next):
    same = abs(high - low) % 12 == abs(high_next - low_next) % 12
    return perfect(low, high) and same and low != low_next and high != high_next


def falls(low, low_next, high, high_next):
    one_way = way(low, low_next) == way(high, high_next) != 0
    return one_way and perfect(low_next, high_next) and abs(high_next - high) > 2


def stands(low, note, above):
    return together(low, note) and (note >= low if above else note <= low)


def moves_well(low, low_next, high, high_next, leap):
    far = abs(high_next - high) > leap
    return not far and not alike(low, low_next, high, high_next) and not falls(low, low_next, high, high_next)


def line_keeps(given, line, leap, above):
    if not all(stands(low, note, above) for low, note in zip(given, line)):
        return False
    if line and not (perfect(given[0], line[0]) and perfect(given[-1], line[-1])):
        return False
    for k in range(1, len(line)):
        if not moves_well(given[k - 1], given[k], line[k - 1], line[k], leap):
            return False
        if k > 1 and abs(line[k - 1] - line[k - 2]) > 4 and way(line[k - 2], line[k - 1]) == way(line[k - 1], line[k]):
            return False
    return True


def cost_of_line(given, line, along, repeat):
    whole = 0
    for k in range(1, len(line)):
        whole += abs(line[k] - line[k - 1])
        if way(given[k - 1], given[k]) == way(line[k - 1], line[k]) != 0:
            whole += along
        if line[k] == line[k - 1]:
            whole += repeat
    return whole


def all_lines(given, notes, leap=9, above=True):
    return [line for line in itertools.product(notes, repeat=len(given)) if line_keeps(given, line, leap, above)]


def pairs_keep(given, line, leap, above):
    if not given:
        return True
    if not (stands(given[0], line[0], above) and stands(given[-1], line[-1], above)):
        return False
    if not (perfect(given[0], line[0]) and perfect(given[-1], line[-1])):
        return False
    for k in range(len(given) - 1):
        low, low_next = given[k], given[k + 1]
        first, second, after = line[2 * k:2 * k + 3]
        by_steps = 1 <= abs(second - first) <= 2 and 1 <= abs(after - second) <= 2
        passed = by_steps and way(first, second) == way(second, after)
        if not stands(low, first, above) or not (stands(low, second, above) or passed):
            return False
        if first == second or second == after or abs(second - first) > leap:
            return False
        if not moves_well(low, low_next, first, after, leap) or not moves_well(low, low_next, second, after, leap):
            return False
    return True


def all_pairs(given, notes, leap=9, above=True):
    long = max(2 * len(given) - 1, 0)
    return [line for line in itertools.product(notes, repeat=long) if pairs_keep(given, line, leap, above)]


def half_steps(line):
    return sum(abs(b - a) for a, b in zip(line, line[1:]))


def sounding(leader, follower, delay):
    return [(leader[k], follower[k - delay]) for k in range(delay, len(leader)) if k - delay < len(follower)]


def pairs_sound(pairs):
    if not all(together(*pair) for pair in pairs):
        return False
    return not any(alike(a[0], b[0], a[1], b[1]) for a, b in zip(pairs, pairs[1:]))


def tune_keeps(tune, delay, shift):
    return pairs_sound(sounding(tune, [note + shift for note in tune], delay))


def cost_of_tune(tune):
    return half_steps(tune) + 2 * sum(a == b for a, b in zip(tune, tune[1:]))
