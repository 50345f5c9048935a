"""Kept: the best line against a given one kept up as the given one changes, only what may change worked out anew."""

from voicewright.errors import BadLine, NoLine
from voicewright.lines import check_line, first_spots, line_by, line_cost, next_table


class Kept:
    """A given line, rules, heights of each place, and how many places were worked out."""

    def __init__(self, given, rules):
        """Work out the heights of all places."""
        self.given = tuple(given)
        self.rules = rules
        self.table = []
        self.done = 0
        self.fill()

    def fill(self):
        """Work out the heights of the places that aren't there."""
        while len(self.table) < len(self.given):
            self.table.append(self.next_heights(len(self.table)))
            self.done += 1

    def next_heights(self, place):
        """Return the heights of a place by those ahead of it."""
        if place == 0:
            return first_spots(self.given, self.rules)
        return next_table(self.given, place, self.rules, self.table[place - 1])

    def change(self, place, many, notes):
        """Take so many given notes out at a place and put others in; return the least cost, None for no line."""
        if many < 0 or not 0 <= place <= place + many <= len(self.given):
            raise BadLine("no such part of the given line")
        was_last = len(self.given) - 1
        self.given = (*self.given[:place], *notes, *self.given[place + many:])
        # The last place has rules of its own, so one that becomes the last, or was it, does not stay.
        stays = place
        if place > 0 and place - 1 in (was_last, len(self.given) - 1):
            stays = place - 1
        del self.table[stays:]
        self.fill()
        return self.cost()

    def cost(self):
        """Return the least cost of a line that keeps all, None for none, nought for no notes."""
        return min(self.table[-1].values(), default=None) if self.table != [] else 0

    def line(self):
        """Return the line that best_line tells; NoLine."""
        if self.table == []:
            return ()
        if self.table[-1] == {}:
            raise NoLine("no line keeps all rules")
        return line_by(self.given, self.rules, self.table)

    def heights(self):
        """Return the heights, place by place."""
        return tuple([{spot: here[spot] for spot in here} for here in self.table])

    def check(self):
        """Return the cost that the line kept and the heights kept show to be least; NoLine, BadPaper."""
        return check_line(self.given, self.line(), self.rules, self.table)


def worse_by(kept, line):
    """Return by how much a line costs more than the least; BadLine, NoLine."""
    best = kept.cost()
    if best is None:
        raise NoLine("no line keeps all rules")
    return line_cost(kept.given, line, kept.rules) - best
