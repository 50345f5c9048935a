"""Canons: tunes that follow themselves later and higher, all ways in which they may, and the best new ones."""

from voicewright.errors import BadPaper, BadSize, NoLine
from voicewright.notes import turned
from voicewright.steps import goes_together, runs_alike, size


def overlap(tune, other, delay):
    """Return (note, later note) where a tune sounds with another that begins so much later; BadSize below nought."""
    if delay < 0:
        raise BadSize("a delay is not below nought")
    return tuple(zip(tune[delay:], other))


def may_sound(pairs):
    """Tell whether all pairs go together and no two perfect sounds of one kind follow each other."""
    if any(not goes_together(note, later) for note, later in pairs):
        return False
    return not any(runs_alike(here[0], there[0], here[1], there[1]) for here, there in zip(pairs, pairs[1:]))


def follows_at(tune, delay, shift):
    """Tell whether a tune may follow itself so much later, so many half steps higher."""
    return may_sound(overlap(tune, [note + shift for note in tune], delay))


def all_canons(tune, delays, shifts):
    """Return all (delay, shift) at which a tune may follow itself, in order."""
    return tuple([(delay, shift) for delay in delays for shift in shifts if follows_at(tune, delay, shift)])


def mirrored(tune, about):
    """Return a tune turned over about twice a middle; BadNote out of range."""
    return tuple([turned(note, about) for note in tune])


def backwards(tune):
    """Return a tune from its end on."""
    return tuple(tune[::-1])


def mirror_follows(tune, delay, about):
    """Tell whether a tune turned over may follow it so much later."""
    return may_sound(overlap(tune, [about - note for note in tune], delay))


def all_mirrors(tune, delays, abouts):
    """Return all (delay, about) at which a tune turned over may follow it, in order."""
    return tuple([(delay, about) for delay in delays for about in abouts if mirror_follows(tune, delay, about)])


def crab(tune):
    """Tell whether a tune may sound with itself from its end on, both begun at once."""
    return may_sound(overlap(tune, backwards(tune), 0))


def may_add(tune, note, delay, shift):
    """Tell whether a note may be a canon tune's next: it goes together with the one that follows then and
    they don't run alike."""
    whole = [*tune, note]
    place = len(tune) - delay
    if place < 0:
        return True
    later = whole[place] + shift
    if not goes_together(note, later):
        return False
    return place == 0 or not runs_alike(whole[-2], note, whole[place - 1] + shift, later)


def state_on(state, note, delay):
    """Return the state behind a state and a note more."""
    whole = (*state, note)
    return whole[max(len(whole) - delay - 1, 0):]


def note_cost(state, note):
    """Return what a note costs behind a state: its half steps, two more for staying."""
    return move_cost(state[-1], note) if len(state) > 0 else 0


def next_states(state, notes, delay, shift):
    """Return the (state, cost) that a state of the last notes, one more than the delay, may go on to, in order."""
    return [(state_on(state, note, delay), note_cost(state, note))
            for note in sorted(set(notes)) if may_add(state, note, delay, shift)]


def best_canon(notes, long, delay, shift):
    """Return a tune so long that follows itself at the least cost, from its end back the lowest states; NoLine."""
    table = canon_heights(notes, long, delay, shift)
    if table[-1] == {}:
        raise NoLine("no tune follows itself so")
    low = min(table[-1].values())
    state = min([last for last, height in table[-1].items() if height == low])
    tune = []
    for place in range(long, 0, -1):
        tune.append(state[-1])
        state = state_ahead(table, place, state, delay, shift)
    return tuple(tune[::-1])


def state_ahead(table, place, state, delay, shift):
    """Return the lowest state from which one of so many notes is come to at its cost."""
    note = state[-1]
    return min([before for before, height in table[place - 1].items()
                if height + note_cost(before, note) == table[place][state]
                and state_on(before, note, delay) == state and may_add(before, note, delay, shift)])


def canon_heights(notes, long, delay, shift):
    """Return, for each length up to so long, a table of states to the least cost to come there."""
    if delay < 0 or long < 0:
        raise BadSize("a delay and a length are not below nought")
    table = [{(): 0}]
    for _ in range(long):
        found = {}
        for state, height in table[-1].items():
            for there, cost in next_states(state, notes, delay, shift):
                if there not in found or height + cost < found[there]:
                    found[there] = height + cost
        table.append(found)
    return tuple(table)


def move_cost(one, other):
    """Return what a move costs: its half steps, two for staying."""
    return size(one, other) if one != other else 2


def tune_cost(tune):
    """Return a tune's half steps in all, two more for each note that stays."""
    return sum([move_cost(one, other) for one, other in zip(tune, tune[1:])])


def check_canon(tune, notes, delay, shift, table):
    """Return the cost of a tune that follows itself and heights show to be least; BadPaper."""
    if len(table) != len(tune) + 1 or table[0].get((), 1) > 0 or any(note not in notes for note in tune):
        raise BadPaper("heights of another length or beginning, or a note that isn't to be had")
    may_follow = follows_at(tune, delay, shift)
    for place in range(len(tune)):
        check_states(notes, delay, shift, table[place], table[place + 1])
    cost = tune_cost(tune)
    if not may_follow or cost != min(table[-1].values()):
        raise BadPaper("a tune that doesn't follow itself or isn't shown to be least")
    return cost


def check_states(notes, delay, shift, here, ahead):
    """Refuse with BadPaper a next table whose states are left out or higher than a way makes them."""
    for state, height in here.items():
        for there, cost in next_states(state, notes, delay, shift):
            if there not in ahead or ahead[there] > height + cost:
                raise BadPaper("a state is left out or too high")


def round_may(tune, delay):
    """Tell whether a tune that begins again and again may follow itself so much later."""
    if not 0 < delay < len(tune):
        raise BadSize("a round follows within its tune")
    # All places of the round, and the first once more, so that the seam is heard too.
    places = list(range(len(tune))) + [0]
    return may_sound([(tune[place], tune[place - delay]) for place in places])
