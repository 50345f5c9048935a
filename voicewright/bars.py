"""Bars: meters, where times fall in them, and lengths written by halves, points and ties."""

from voicewright.errors import BadTime
from voicewright.parts import (as_wholes, by, check_length, in_order, is_less, least, minus, part, plus, rest_by,
                               whole_below)


class Meter:
    """So many beats of a length, and which beats are strong, the first always."""

    def __init__(self, beats, length, strong=()):
        """Keep the strong beats rising, each once, the first among them."""
        if beats < 1 or any(not 0 <= beat < beats for beat in strong):
            raise BadTime("a meter has a beat at least, and its strong beats are among them")
        self.beats = beats
        self.length = check_length(length)
        self.strong = tuple(sorted(set([0, *strong])))

    def bar(self):
        """Return a bar's length."""
        return part(self.length[0] * self.beats, self.length[1])

    def place(self, time):
        """Return (bar's number, beat, time left in the beat) of a time from nought on; BadTime ahead of it."""
        if time[0] < 0:
            raise BadTime("a time ahead of nought")
        in_bar = rest_by(time, self.bar())
        return (whole_below(by(time, self.bar())), whole_below(by(in_bar, self.length)), rest_by(in_bar, self.length))

    def weight(self, time):
        """Return two for a bar's beginning, one for another strong beat's, nought else; BadTime ahead of nought."""
        _, beat, rest = self.place(time)
        if rest[0] > 0 or beat not in self.strong:
            return 0
        return 2 if beat == 0 else 1

    def next_bar(self, time):
        """Return the first bar's beginning behind a time."""
        number = self.place(time)[0] + 1
        bar = self.bar()
        return part(bar[0] * number, bar[1])


def cut_at_bars(meter, start, length):
    """Return (start, length) of the parts of a note, cut at bars' beginnings; BadTime."""
    here = part(start[0], start[1])
    end = plus(here, check_length(length))
    found = []
    while is_less(here, end):
        stop = least(end, meter.next_bar(here))
        found.append((here, minus(stop, here)))
        here = stop
    return tuple(found)


def written(most, halvings, points):
    """Return the tuple of lengths that may be written, greatest first: a greatest one halved up to so often, each
    with none to so many points."""
    # With all its points a length is twice as long, but for as much as the last point is.
    return sorted_down([part(most[0] * (power(many + 1) - 1), most[1] * power(halved + many))
                        for halved in range(halvings + 1) for many in range(points + 1)])


def power(count):
    """Return two to a power."""
    found = 1
    for _ in range(count):
        found *= 2
    return found


def sorted_down(lengths):
    """Return lengths each once, the greatest first."""
    found = []
    for one in in_order([part(top, low) for top, low in lengths])[::-1]:
        if found == [] or one != found[-1]:
            found.append(one)
    return tuple(found)


def tied(length, lengths, most=6):
    """Return the tuple of the fewest written lengths that make one, the greatest as early as can be; BadTime for
    none."""
    rows = sorted_down(lengths)
    *counts, due = as_wholes([*rows, check_length(length)])
    layers = layers_to(due, counts, most)
    if due not in layers[-1]:
        raise BadTime("a length that can't be written so")
    # Of lengths that make what is left, the greatest is taken first; so what comes behind it is never greater.
    found = []
    for layer in layers[-2::-1]:
        place = [k for k, count in enumerate(counts) if due - count in layer][0]
        found.append(rows[place])
        due -= counts[place]
    return tuple(found)


def layers_to(due, counts, most):
    """Return tables of what none, one and more counts make, up to the first with what is due, or to the most."""
    layers = [{0: True}]
    while due not in layers[-1] and len(layers) <= most:
        # What can't come up to what is due by as many counts as are left is of no use.
        lowest = due - (most - len(layers)) * max(counts, default=0)
        layers.append({made + count: True for made in layers[-1] for count in counts if lowest <= made + count <= due})
    return layers


def written_note(meter, start, length, lengths):
    """Return the tuples of written lengths of a note, one for each bar it goes through, all tied; BadTime."""
    return tuple([tied(piece, lengths) for _, piece in cut_at_bars(meter, start, length)])


def many_written(meter, notes, lengths):
    """Return how many written lengths notes, (start, length), take in all; BadTime."""
    return sum([len(row) for start, length in notes for row in written_note(meter, start, length, lengths)])
