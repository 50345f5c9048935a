"""Lines: notes put against a given line, one against one, that keep every rule and cost least, with papers."""

from voicewright.errors import BadLine, BadPaper, NoLine
from voicewright.steps import falls_into, goes_one_way, goes_together, is_leap, is_perfect, runs_alike, size, way_of

LEAP = 9


class Rules:
    """The notes a line may have, what its first and last sounds must be, and what moves cost."""

    def __init__(self, notes, leap=LEAP, along=1, repeat=2, above=True):
        """Keep the notes rising, each once, and the rest as it is."""
        self.notes = tuple(sorted(set(notes)))
        self.leap = leap
        self.along = along
        self.repeat = repeat
        self.above = above

    def sounds(self, low, high):
        """Tell whether a note may stand against a given one: on its side, or the same, and going together."""
        on_side = high >= low if self.above else high <= low
        return on_side and goes_together(low, high)

    def may_begin(self, low, high):
        """Tell whether a note may be a line's first or last against a given one: a perfect sound."""
        return self.sounds(low, high) and is_perfect(low, high)

    def may_move(self, low, low_next, high, high_next):
        """Tell whether a line may move: no further than the leap, no perfect sounds alike, none fallen into."""
        if size(high, high_next) > self.leap or runs_alike(low, low_next, high, high_next):
            return False
        return not falls_into(low, low_next, high, high_next)

    def cost(self, low, low_next, high, high_next):
        """Return what a move costs: its half steps, more for going along and for staying."""
        worth = size(high, high_next)
        if goes_one_way(low, low_next, high, high_next):
            worth += self.along
        if high == high_next:
            worth += self.repeat
        return worth

    def turns(self, before, here, after):
        """Tell whether a leap is followed by a move the other way, or by none."""
        return not is_leap(before, here) or way_of(here, after) != way_of(before, here)


def stands(given, place, note, rules):
    """Tell whether a note's sound keeps the rules at a place: perfect at both ends."""
    if place == 0 or place == len(given) - 1:
        return rules.may_begin(given[place], note)
    return rules.sounds(given[place], note)


def goes_on(given, place, spot, note, rules):
    """Tell whether a move from a spot to a note at a place keeps the rules."""
    ahead, here = spot
    if not rules.may_move(given[place - 1], given[place], here, note):
        return False
    return ahead is None or rules.turns(ahead, here, note)


def cost_on(given, place, spot, note, rules):
    """Return what a move from a spot to a note at a place costs."""
    return rules.cost(given[place - 1], given[place], spot[1], note)


def keeps(given, line, rules):
    """Tell whether a line keeps all rules against a given one: not one of another length."""
    if len(given) != len(line) or any(note not in rules.notes for note in line):
        return False
    if any(not stands(given, place, note, rules) for place, note in enumerate(line)):
        return False
    ahead = None
    for place in range(1, len(line)):
        if not goes_on(given, place, (ahead, line[place - 1]), line[place], rules):
            return False
        ahead = line[place - 1]
    return True


def line_cost(given, line, rules):
    """Return what a line costs, move by move; BadLine for another length."""
    if len(given) != len(line):
        raise BadLine("a line has another length than the given one")
    return sum([rules.cost(given[place - 1], given[place], line[place - 1], line[place])
                for place in range(1, len(line))])


def first_spots(given, rules):
    """Return a table of (None, note) to nought for the notes a line may begin with."""
    if len(given) == 0:
        return {}
    return {(None, note): 0 for note in rules.notes if rules.may_begin(given[0], note)}


def may_follow(given, place, spot, note, rules):
    """Tell whether a note may follow a spot, (note ahead, note), at a place."""
    if note not in rules.notes or not stands(given, place, note, rules):
        return False
    return goes_on(given, place, spot, note, rules)


def spots_on(given, place, spot, rules):
    """Return the (spot, cost of the move to it) at a place that may follow a spot, in order."""
    return [((spot[1], note), cost_on(given, place, spot, note, rules))
            for note in rules.notes
            if stands(given, place, note, rules) and goes_on(given, place, spot, note, rules)]


def next_table(given, place, rules, ahead):
    """Return a table of a place's spots to the least cost to come there, by the table of the place ahead."""
    found = {}
    for spot, height in ahead.items():
        for there, cost in spots_on(given, place, spot, rules):
            if there not in found or height + cost < found[there]:
                found[there] = height + cost
    return found


def heights(given, rules):
    """Return, for each place, a table of spots, (note ahead, note), to the least cost to come there."""
    table = []
    for place in range(len(given)):
        table.append(next_table(given, place, rules, table[-1]) if place > 0 else first_spots(given, rules))
    return tuple(table)


def lowest_end(last):
    """Return the spot of least cost in a last table: the lowest note, then the lowest note ahead."""
    low = min(last.values())
    note, ahead = min([(note, ahead) for ahead, note in last if last[ahead, note] == low])
    return (ahead, note)


def line_by(given, rules, table):
    """Return the line that heights, not bare at the end, show: from the end back the lowest of as good."""
    spot = lowest_end(table[-1])
    line = [spot[1]]
    for place in range(len(given) - 1, 0, -1):
        spot = source(given, rules, table, place, spot)
        line.append(spot[1])
    return tuple(line[::-1])


def best_line(given, rules):
    """Return a line of least cost: its notes from the end back, the lowest of as good; NoLine where none keeps all."""
    table = heights(given, rules)
    if table == ():
        return ()
    if table[-1] == {}:
        raise NoLine("no line keeps all rules")
    return line_by(given, rules, table)


def source(given, rules, table, place, spot):
    """Return the spot from which one is come to at its cost, the lowest."""
    here, note = spot
    return min([before for before, height in table[place - 1].items()
                if before[1] == here and may_follow(given, place, before, note, rules)
                and height + cost_on(given, place, before, note, rules) == table[place][spot]])


def how_many(given, rules):
    """Return how many lines keep all rules against a given one, one for no notes."""
    if len(given) == 0:
        return 1
    counts = {spot: 1 for spot in first_spots(given, rules)}
    for place in range(1, len(given)):
        found = {}
        for spot, count in counts.items():
            for there, _ in spots_on(given, place, spot, rules):
                found[there] = found.get(there, 0) + count
        counts = found
    return sum(counts.values())


def check_heights(given, rules, table):
    """Return the least height at the end (None for no spots, 0 for no notes) where none is too high or left out."""
    if len(table) != len(given):
        raise BadPaper("heights of another length")
    if len(given) == 0:
        return 0
    if any(spot not in table[0] or table[0][spot] > 0 for spot in first_spots(given, rules)):
        raise BadPaper("a beginning is left out or too high")
    for place in range(1, len(given)):
        for spot, height in table[place - 1].items():
            for there, cost in spots_on(given, place, spot, rules):
                if there not in table[place] or table[place][there] > height + cost:
                    raise BadPaper("a spot is left out or too high")
    return min(table[-1].values(), default=None)


def check_line(given, line, rules, table):
    """Return the cost of a line that keeps all and heights show to be least; BadPaper."""
    if not keeps(given, line, rules):
        raise BadPaper("a line that breaks the rules")
    cost = line_cost(given, line, rules)
    if cost != check_heights(given, rules, table):
        raise BadPaper("a line that isn't shown to be least")
    return cost


def check_none(given, rules, table):
    """Return the first place that no line comes to, by heights whose tables there are bare; BadPaper."""
    if check_heights(given, rules, table) is not None:
        raise BadPaper("heights that aren't bare at the end")
    return [place for place, here in enumerate(table) if here == {}][0]
