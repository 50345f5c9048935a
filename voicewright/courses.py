"""Courses: chords put under a tune, the best in all, the next best ones, and papers."""

from voicewright.chords import chord
from voicewright.errors import BadPaper, BadSize, NoLine
from voicewright.notes import class_of


class Style:
    """The chords that may be, as (root, kind), what each costs, and what goes from one to another costs."""

    def __init__(self, chords, costs, moves, other=3):
        """Take a cost for each chord, and moves as rows (chord, next chord, cost) by the chords' numbers."""
        self.chords = [(root, kind) for root, kind in chords]
        self.costs = list(costs)
        self.moves = {(one, after): cost for one, after, cost in moves}
        self.other = other
        if len(self.costs) != len(self.chords):
            raise BadSize("another count of costs than of chords")
        if min(self.costs + [other] + list(self.moves.values())) < 0:
            raise BadSize("a cost is not below nought")

    def fits(self, number, note):
        """Tell whether a note is one of a chord's."""
        if not 0 <= number < len(self.chords):
            return False
        root, kind = self.chords[number]
        return class_of(note) in chord(root, kind)

    def cost(self, number):
        """Return what a chord costs."""
        return self.costs[number]

    def move(self, one, other):
        """Return what going from one chord to another costs: nought for staying where it isn't told."""
        return self.moves.get((one, other), 0 if one == other else self.other)


def fitting(style, note):
    """Return the numbers of the chords that have a note, in order."""
    return [number for number in range(len(style.chords)) if style.fits(number, note)]


def ways_to(style, ahead, number):
    """Return what each way to come to a chord costs, by the heights ahead of it, None at the beginning."""
    if ahead is None:
        return [style.cost(number)]
    return [height + style.move(before, number) + style.cost(number) for before, height in ahead.items()]


def heights_under(style, tune):
    """Return, for each note, a table of the chords that have it to the least cost to come there."""
    table = []
    ahead = None
    for note in tune:
        here = {}
        for number in fitting(style, note):
            ways = ways_to(style, ahead, number)
            if ways != []:
                here[number] = min(ways)
        table.append(here)
        ahead = here
    return tuple(table)


def best_course(style, tune):
    """Return the numbers of the chords of least cost, from the end back the first of as good; NoLine for none."""
    table = heights_under(style, tune)
    if any(here == {} for here in table):
        raise NoLine("no chords for all notes")
    if table == ():
        return ()
    _, number = min([(height, last) for last, height in table[-1].items()])
    numbers = [number]
    for place in range(len(table) - 1, 0, -1):
        due = table[place][number] - style.cost(number)
        number = min([before for before, height in table[place - 1].items()
                      if height + style.move(before, number) == due])
        numbers.append(number)
    return tuple(numbers[::-1])


def course_of(style, tune, numbers):
    """Return the cost of chords under a tune; BadSize for another length, or a chord that hasn't its note."""
    if len(numbers) != len(tune):
        raise BadSize("another count of chords than of notes")
    if any(not style.fits(number, note) for number, note in zip(numbers, tune)):
        raise BadSize("a chord that hasn't its note")
    moved = sum([style.move(one, after) for one, after in zip(numbers, numbers[1:])])
    return moved + sum([style.cost(number) for number in numbers])


def best_courses(style, tune, many):
    """Return (cost, numbers) of up to so many courses, (0, ()) for no notes, the cheapest first, then by numbers."""
    # A course's beginning that many better ones with the same chord at their ends beat is in none of the best ones.
    found = [(0, ())]
    for note in tune:
        longer = []
        for number in fitting(style, note):
            ways = []
            for cost, numbers in found:
                moved = style.move(numbers[-1], number) if numbers != () else 0
                ways.append((cost + moved + style.cost(number), (*numbers, number)))
            longer.extend(first_ones(ways, many))
        found = longer
    return tuple(first_ones(found, many))


def first_ones(rows, many):
    """Return up to so many rows, the least first."""
    return sorted(rows)[:max(many, 0)]


def check_under(style, tune, table):
    """Return the least height at the end, 0 for no notes, where each is no more than any way to it makes it;
    BadPaper."""
    if len(table) != len(tune):
        raise BadPaper("heights of another length")
    ahead = None
    for place, note in enumerate(tune):
        here = table[place]
        for number in fitting(style, note):
            ways = ways_to(style, ahead, number)
            if ways != [] and (number not in here or here[number] > min(ways)):
                raise BadPaper("a chord is left out or too high")
        ahead = here
    return 0 if ahead is None else min(ahead.values(), default=None)


def check_course(style, tune, numbers, table):
    """Return the cost of a course that heights show to be least; BadPaper, BadSize."""
    cost = course_of(style, tune, numbers)
    if cost != check_under(style, tune, table):
        raise BadPaper("a course that isn't shown to be least")
    return cost


def told_course(style, numbers):
    """Return the (root, kind) of a course's chords."""
    return tuple([style.chords[number] for number in numbers])
