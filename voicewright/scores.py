"""Scores: several lines of one length together, what sounds, and where rules are broken."""

from voicewright.errors import BadLine, BadSize
from voicewright.steps import falls_into, goes_together, is_perfect, motion, runs_alike

# As many half steps as lines are tried to be moved either way.
FURTHEST = 24


def is_rough_at(low, high, place):
    """Tell whether two lines' notes don't go together at a place."""
    return not goes_together(low[place], high[place])


def is_crossed_at(low, high, place):
    """Tell whether the lower line is above the upper one at a place."""
    return low[place] > high[place]


def is_alike_from(low, high, place):
    """Tell whether two lines run alike from a place."""
    return runs_alike(low[place], low[place + 1], high[place], high[place + 1])


def is_fallen_from(low, high, place):
    """Tell whether two lines fall into a perfect sound from a place."""
    return falls_into(low[place], low[place + 1], high[place], high[place + 1])


class Score:
    """Lines of one length, the lowest first."""

    def __init__(self, lines):
        """Keep the lines; BadLine for unlike lengths."""
        self.lines = [tuple(line) for line in lines]
        if any(len(line) != len(self.lines[0]) for line in self.lines):
            raise BadLine("lines of unlike lengths")

    def long(self):
        """Return how many notes each line has, nought for no lines."""
        return len(self.lines[0]) if self.lines != [] else 0

    def sound(self, place):
        """Return the notes at a place, the lowest line's first; BadSize."""
        if not 0 <= place < self.long():
            raise BadSize("no such place")
        return tuple([line[place] for line in self.lines])

    def pairs(self):
        """Return the (lower, upper) numbers of all pairs of lines, in order."""
        return [(low, high) for low in range(len(self.lines)) for high in range(low + 1, len(self.lines))]

    def where(self, holds, many):
        """Return (place, lower line, upper line) of which something holds, of the first so many places, in order."""
        return tuple([(place, low, high) for place in range(many) for low, high in self.pairs()
                      if holds(self.lines[low], self.lines[high], place)])

    def rough(self):
        """Return (place, lower line, upper line) whose notes don't go together, in order."""
        return self.where(is_rough_at, self.long())

    def crossed(self):
        """Return (place, lower line, upper line) where the lower line is above the upper one, in order."""
        return self.where(is_crossed_at, self.long())

    def alike(self):
        """Return (place, lower line, upper line) from which two lines run alike in perfect sounds, in order."""
        return self.where(is_alike_from, self.long() - 1)

    def fallen(self):
        """Return (place, lower line, upper line) from which two lines fall into a perfect sound, in order."""
        return self.where(is_fallen_from, self.long() - 1)

    def motions(self, low, high):
        """Return how two lines move from each place to the next; BadSize for no such lines."""
        if not 0 <= low < len(self.lines) or not 0 <= high < len(self.lines):
            raise BadSize("no such line")
        one = self.lines[low]
        other = self.lines[high]
        return tuple([motion(one[place], one[place + 1], other[place], other[place + 1])
                      for place in range(self.long() - 1)])

    def is_clean(self):
        """Tell whether nothing is rough, crossed, alike or fallen into."""
        return self.rough() == () and self.crossed() == () and self.alike() == () and self.fallen() == ()

    def moved(self, steps):
        """Return the score so many half steps up."""
        return Score([[note + steps for note in line] for line in self.lines])

    def without(self, number):
        """Return the score without a line; BadSize."""
        if not 0 <= number < len(self.lines):
            raise BadSize("no such line")
        return Score(self.lines[:number] + self.lines[number + 1:])

    def with_line(self, line):
        """Return the score with a line more, above all; BadLine."""
        return Score([*self.lines, line])

    def shown(self):
        """Return the lines."""
        return tuple(self.lines)


def perfect_places(score, low, high):
    """Return the places at which two lines sound perfect."""
    return tuple([place for place in range(score.long())
                  if is_perfect(score.lines[low][place], score.lines[high][place])])


def ranges(score):
    """Return the (lowest, highest) note of each line; BadSize for a bare score."""
    if score.long() == 0:
        raise BadSize("a bare score")
    return tuple([(min(line), max(line)) for line in score.lines])


def leaves(line, bounds):
    """Tell whether a line leaves its (lowest, highest) bounds."""
    low, high = bounds
    return any(not low <= note <= high for note in line)


def fits_ranges(score, bounds):
    """Return the numbers of the lines that leave their (lowest, highest) bounds; BadSize for another count."""
    if len(bounds) != len(score.lines):
        raise BadSize("another count of bounds than of lines")
    return tuple([number for number, line in enumerate(score.lines) if leaves(line, bounds[number])])


def best_move(score, bounds, key):
    """Return the least move, then the lower, by which lines keep bounds and begin on a key's notes; None, BadSize."""
    first = score.sound(0)
    for _, steps in sorted([(abs(steps), steps) for steps in range(0 - FURTHEST, FURTHEST + 1)]):
        if fits_ranges(score.moved(steps), bounds) == () and all(key.has(note + steps) for note in first):
            return steps
    return None
