"""Pairs: two notes against one: the first goes together, the second may pass by steps, at the least cost."""

from voicewright.errors import BadLine, BadPaper, NoLine
from voicewright.steps import is_step, size, way_of


def passes(before, here, after):
    """Tell whether a note is passed by steps one way."""
    return is_step(before, here) and is_step(here, after) and way_of(before, here) == way_of(here, after)


def may_pair(rules, low, low_next, first, second, after):
    """Tell whether a first and a second note stand against one, and a first against the next, by the rules."""
    if not rules.sounds(low, first) or not rules.sounds(low_next, after):
        return False
    if first == second or second == after or size(first, second) > rules.leap:
        return False
    if not rules.sounds(low, second) and not passes(first, second, after):
        return False
    return rules.may_move(low, low_next, first, after) and rules.may_move(low, low_next, second, after)


def pair_cost(first, second, after):
    """Return what two moves cost: their half steps."""
    return size(first, second) + size(second, after)


def long_of_pairs(given):
    """Return how many notes a line of pairs has: twice the given ones less one, none against none."""
    return max(2 * len(given) - 1, 0)


def keeps_pairs(given, line, rules):
    """Tell whether a line of two notes against each given one but the last keeps all rules."""
    if len(line) != long_of_pairs(given) or any(note not in rules.notes for note in line):
        return False
    if len(given) == 0:
        return True
    if not rules.may_begin(given[0], line[0]) or not rules.may_begin(given[-1], line[-1]):
        return False
    for place in range(1, len(given)):
        first, second, after = line[2 * place - 2:2 * place + 1]
        if not may_pair(rules, given[place - 1], given[place], first, second, after):
            return False
    return True


def cost_of_pairs(line):
    """Return what a line costs: all its half steps."""
    return sum([size(one, other) for one, other in zip(line, line[1:])])


def first_notes(given, rules):
    """Return a table of the notes a line of pairs may begin with to nought."""
    return {note: 0 for note in rules.notes if rules.may_begin(given[0], note)}


def pair_heights(given, rules):
    """Return, for each given note, a table of first notes against it to the least cost to come there."""
    table = []
    for place in range(len(given)):
        table.append(next_firsts(given, place, rules, table[-1]) if place > 0 else first_notes(given, rules))
    return tuple(table)


def next_firsts(given, place, rules, ahead):
    """Return a table of a place's first notes to the least cost to come there, by the table of the place ahead."""
    found = {}
    for first, height in ahead.items():
        for second, after in follows(given, place, first, rules):
            cost = height + pair_cost(first, second, after)
            if after not in found or cost < found[after]:
                found[after] = cost
    return found


def follows(given, place, first, rules):
    """Return the (second note, first note at a place) that may follow a first note at the place ahead, in order."""
    low = given[place - 1]
    low_next = given[place]
    # Neither note may lie further off than the leap, so only these are tried.
    near = [note for note in rules.notes if size(first, note) <= rules.leap]
    ends = place == len(given) - 1
    return [(second, after) for second in near for after in near
            if may_pair(rules, low, low_next, first, second, after)
            and (not ends or rules.may_begin(low_next, after))]


def best_pairs(given, rules):
    """Return a line of least cost, from the end back the lowest (first, second) notes; NoLine if none keeps all."""
    table = pair_heights(given, rules)
    if table == ():
        return ()
    if table[-1] == {}:
        raise NoLine("no line of pairs keeps all rules")
    after = lowest_of_least(table[-1])
    line = [after]
    for place in range(len(given) - 1, 0, -1):
        first, second = pair_ahead(given, rules, table, place, after)
        line.extend([second, first])
        after = first
    return tuple(line[::-1])


def lowest_of_least(last):
    """Return the lowest note of those at the least cost."""
    low = min(last.values())
    return min([note for note in last if last[note] == low])


def pair_ahead(given, rules, table, place, after):
    """Return the lowest (first, second) from which a first note at a place is come to at its cost."""
    return min([(first, second) for first, height in table[place - 1].items()
                for second, there in follows(given, place, first, rules)
                if there == after and height + pair_cost(first, second, after) == table[place][after]])


def check_pairs(given, line, rules, table):
    """Return the cost of a line that keeps all and heights show to be least; BadPaper, BadLine."""
    if len(table) != len(given):
        raise BadPaper("heights of another length")
    if not keeps_pairs(given, line, rules):
        raise BadLine("a line that breaks the rules")
    whole = cost_of_pairs(line)
    if len(given) == 0:
        return whole
    if any(table[0].get(note, 1) > 0 for note in first_notes(given, rules)):
        raise BadPaper("a beginning is left out or too high")
    for place in range(1, len(given)):
        check_firsts(given, place, rules, table)
    if min(table[-1].values()) != whole:
        raise BadPaper("a line that isn't shown to be least")
    return whole


def check_firsts(given, place, rules, table):
    """Refuse with BadPaper a place's first notes that are left out or higher than a way makes them."""
    for first, height in table[place - 1].items():
        for second, after in follows(given, place, first, rules):
            cost = height + pair_cost(first, second, after)
            if after not in table[place] or table[place][after] > cost:
                raise BadPaper("a first note is left out or too high")


def firsts(line):
    """Return the first notes of a line of pairs."""
    return tuple(line[::2])


def passed(line):
    """Return the places of second notes in a line of pairs that are passed by steps one way, in order."""
    return tuple([place for place in range(1, len(line) - 1, 2)
                  if passes(line[place - 1], line[place], line[place + 1])])
