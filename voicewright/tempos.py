"""Tempos: how long beats take, from beat to beat, and the exact time of each."""

from voicewright.errors import BadTime
from voicewright.parts import by, check_length, in_order, is_less, minus, part, plus, times


class Tempos:
    """Changes, (beat, time that a beat takes from there on), the first at nought, rising."""

    def __init__(self, changes):
        """Keep the changes, beats and lengths made small."""
        self.changes = [(part(beat[0], beat[1]), check_length(length)) for beat, length in changes]
        if self.changes == [] or self.changes[0][0] != (0, 1):
            raise BadTime("the first change is at nought")
        if any(not is_less(self.changes[k - 1][0], self.changes[k][0]) for k in range(1, len(self.changes))):
            raise BadTime("changes rise")

    def time_of(self, beat):
        """Return the time at which a beat from nought on comes; BadTime ahead of it."""
        if beat[0] < 0:
            raise BadTime("a beat ahead of nought")
        time = (0, 1)
        start, length = self.changes[0]
        for there, after in self.changes[1:]:
            if is_less(beat, there):
                break
            time = plus(time, times(minus(there, start), length))
            start, length = there, after
        return plus(time, times(minus(beat, start), length))

    def beat_at(self, time):
        """Return the beat that comes at a time from nought on; BadTime ahead of it."""
        if time[0] < 0:
            raise BadTime("a time ahead of nought")
        ahead = (0, 1)
        start, length = self.changes[0]
        for there, after in self.changes[1:]:
            taken = plus(ahead, times(minus(there, start), length))
            if is_less(time, taken):
                break
            ahead = taken
            start, length = there, after
        return plus(start, by(minus(time, ahead), length))

    def length_at(self, beat):
        """Return the time that a beat takes at a beat; BadTime ahead of nought."""
        if beat[0] < 0:
            raise BadTime("a beat ahead of nought")
        return [length for start, length in self.changes if not is_less(beat, start)][-1]

    def changed(self, beat, length):
        """Return tempos with a change more, or another one at its beat; BadTime."""
        ahead = [change for change in self.changes if is_less(change[0], beat)]
        behind = [change for change in self.changes if is_less(beat, change[0])]
        return Tempos([*ahead, (beat, length), *behind])

    def stretched(self, much):
        """Return tempos that take so much as long; BadTime for nothing."""
        by_much = check_length(much)
        return Tempos([(beat, times(length, by_much)) for beat, length in self.changes])

    def shown(self):
        """Return the changes."""
        return tuple(self.changes)


def merged(tempos):
    """Return tempos without changes that change nothing."""
    found = []
    for beat, length in tempos.changes:
        if found == [] or found[-1][1] != length:
            found.append((beat, length))
    return Tempos(found)


def meets(tempos, other, times_of):
    """Return the times, of some, at which both tempos come to a whole beat, in order."""
    return in_order([part(time[0], time[1]) for time in times_of
                     if is_whole(tempos.beat_at(time)) and is_whole(other.beat_at(time))])


def is_whole(beat):
    """Tell whether a beat, made small, is a whole one."""
    return beat[1] == 1


def even_change(start, first, last, steps):
    """Return changes that go from one length of a beat to another by even steps, a beat each; BadTime below one."""
    if steps < 1:
        raise BadTime("a change takes a step at least")
    step = times(minus(last, first), (1, steps))
    return tuple([(plus(start, (k, 1)), plus(first, times(step, (k, 1)))) for k in range(steps + 1)])
