"""Streams: notes as beginnings and ends in order of time, put together, taken apart, and read again."""

from voicewright.errors import BadTime, NoSuch
from voicewright.parts import as_wholes, is_less, minus, part, plus
from voicewright.players import check_notes


def made_small(rows):
    """Return events, or steps, as tuples, their times made small."""
    return [(part(time[0], time[1]), begins, note) for time, begins, note in rows]


def by_order(rows):
    """Return events in order of time, ends first, then by notes, those alike as they came."""
    whole = as_wholes([row[0] for row in rows])
    order = sorted([(time, row[1], row[2], place) for place, (time, row) in enumerate(zip(whole, rows))])
    return tuple([rows[one[3]] for one in order])


def events(notes):
    """Return (time, 0 for an end or 1 for a beginning, note) in order of time, ends first, then by notes."""
    rows = []
    for start, length, note in check_notes(notes):
        rows.append((start, 1, note))
        rows.append((plus(start, length), 0, note))
    return by_order(made_small(rows))


def is_ahead(one, other):
    """Tell whether an event comes ahead of another."""
    if is_less(one[0], other[0]) or is_less(other[0], one[0]):
        return is_less(one[0], other[0])
    return (one[1], one[2]) < (other[1], other[2])


def put_in(rows, one):
    """Return rows with an event at its place, behind those alike."""
    found = made_small(rows)
    place = len(found)
    while place > 0 and is_ahead(one, found[place - 1]):
        place -= 1
    found[place:place] = made_small([one])
    return tuple(found)


def together(streams):
    """Return the events of several streams in one, in order, the earlier streams' first of those alike."""
    return by_order(made_small([row for stream in streams for row in stream]))


def notes_of(stream):
    """Return the notes of a stream: each end ends the first open beginning of its note; BadTime, NoSuch."""
    found = []
    open_ones = {}
    last = None
    for time, begins, note in made_small(stream):
        if last is not None and is_less(time, last):
            raise BadTime("events out of order")
        last = time
        if begins:
            open_ones.setdefault(note, []).append(len(found))
            found.append((time, None, note))
        elif open_ones.get(note, []) == []:
            raise NoSuch("an end where nothing is open")
        else:
            place = open_ones[note].pop(0)
            if found[place][0] == time:
                raise BadTime("a note without a length")
            found[place] = (found[place][0], minus(time, found[place][0]), note)
    if any(rows != [] for rows in open_ones.values()):
        raise NoSuch("a beginning without an end")
    return tuple(found)


def moved_stream(stream, much):
    """Return a stream so much later; BadTime where something would come ahead of nought."""
    found = [(plus(time, much), begins, note) for time, begins, note in stream]
    if any(row[0][0] < 0 for row in found):
        raise BadTime("an event ahead of nought")
    return tuple(found)


def between(stream, start, end):
    """Return the events from a time on, ahead of another."""
    return tuple([row for row in made_small(stream) if not is_less(row[0], start) and is_less(row[0], end)])


def open_at(stream, time):
    """Return the notes that are open just behind a time's events, in order, each as often."""
    many = {}
    for there, begins, note in stream:
        if not is_less(time, there):
            many[note] = max(many.get(note, 0) + (1 if begins else -1), 0)
    return tuple([note for note in sorted(many) for _ in range(many[note])])


def steps_between(stream):
    """Return how much later each event comes than the one ahead, the first from nought."""
    found = []
    last = (0, 1)
    for time, begins, note in stream:
        found.append((minus(time, last), begins, note))
        last = time
    return tuple(found)


def from_steps(rows):
    """Return the stream of steps; BadTime for one below nought."""
    found = []
    time = (0, 1)
    for step, begins, note in rows:
        if step[0] < 0:
            raise BadTime("a step back")
        time = plus(time, step)
        found.append((time, begins, note))
    return tuple(found)
