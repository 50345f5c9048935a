"""Hands: strings and places on them, and how a tune is played with the least moving of the hand."""

from voicewright.errors import BadPaper, BadSize, NoLine


class Neck:
    """Open strings' notes, and how many places each string has above its open one."""

    def __init__(self, strings, places):
        """Keep both; BadSize for no strings, or places below nought."""
        self.strings = tuple(strings)
        self.places = places
        if len(self.strings) == 0 or places < 0:
            raise BadSize("a neck has a string at least, and no places below nought")

    def spots(self, note):
        """Return the (string, place) at which a note is, in order."""
        return tuple([(string, note - low) for string, low in enumerate(self.strings)
                      if 0 <= note - low <= self.places])

    def note(self, spot):
        """Return the note of a spot; BadSize for one that isn't there."""
        string, place = spot
        if not 0 <= string < len(self.strings) or not 0 <= place <= self.places:
            raise BadSize("no such spot")
        return self.strings[string] + place


def move(one, other):
    """Return what it costs to go from a spot to another: places and strings, an open string's place being free."""
    strings = abs(other[0] - one[0])
    if one[1] == 0 or other[1] == 0:
        return strings
    return strings + abs(other[1] - one[1])


def ways_to(spot, ahead):
    """Return what each way to come to a spot costs, by the heights ahead of it, None at the first note."""
    if ahead is None:
        return [0]
    return [height + move(before, spot) for before, height in ahead.items()]


def heights_of(neck, tune):
    """Return, for each note, a table of its spots to the least cost to come there."""
    table = []
    ahead = None
    for note in tune:
        here = {}
        for spot in neck.spots(note):
            ways = ways_to(spot, ahead)
            if ways != []:
                here[spot] = min(ways)
        table.append(here)
        ahead = here
    return tuple(table)


def best_spots(neck, tune):
    """Return the spots of least cost, from the end back the first of as good; NoLine where a note isn't to be had."""
    table = heights_of(neck, tune)
    if any(here == {} for here in table):
        raise NoLine("a note isn't to be had")
    if table == ():
        return ()
    _, spot = min([(height, last) for last, height in table[-1].items()])
    spots = [spot]
    for place in range(len(table) - 1, 0, -1):
        due = table[place][spot]
        spot = min([before for before, height in table[place - 1].items() if height + move(before, spot) == due])
        spots.append(spot)
    return tuple(spots[::-1])


def cost_of_spots(neck, tune, spots):
    """Return what spots cost in all; BadSize where one isn't its note's."""
    if len(spots) != len(tune) or any(neck.note(spot) != note for spot, note in zip(spots, tune)):
        raise BadSize("spots that aren't the notes'")
    return sum([move(one, other) for one, other in zip(spots, spots[1:])])


def check_spots(neck, tune, spots, table):
    """Return the cost of spots that heights show to be least; BadPaper, BadSize."""
    if len(table) != len(tune):
        raise BadPaper("heights of another length")
    ahead = None
    for note, here in zip(tune, table):
        for spot in neck.spots(note):
            ways = ways_to(spot, ahead)
            if ways != [] and (spot not in here or here[spot] > min(ways)):
                raise BadPaper("a spot is left out or too high")
        ahead = here
    whole = cost_of_spots(neck, tune, spots)
    if len(tune) > 0 and whole != min(table[-1].values(), default=None):
        raise BadPaper("spots that aren't shown to be least")
    return whole


def grips(neck, notes, wide):
    """Return all ways to hold notes at once, a string each, pressed places no wider than told, in order; BadSize."""
    if wide < 0:
        raise BadSize("a grip is nought places wide at least")
    ways = [()]
    for note in notes:
        ways = [(*way, spot) for way in ways for spot in neck.spots(note) if is_free(way, spot[0])]
    return tuple([way for way in ways if width(way) <= wide])


def is_free(way, string):
    """Tell whether no spot of a way is on a string."""
    return all(there != string for there, _ in way)


def width(way):
    """Return how far the pressed places of a way are apart, nought for none."""
    pressed = [place for _, place in way if place > 0]
    return max(pressed, default=0) - min(pressed, default=0)
