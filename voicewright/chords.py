"""Chords: lots of the twelve, what they are called, and how they lie."""

from itertools import combinations

from voicewright.errors import BadSize, NoSuch
from voicewright.notes import class_of

CHORDS = (
    ("major", (0, 4, 7)),
    ("minor", (0, 3, 7)),
    ("small", (0, 3, 6)),
    ("wide", (0, 4, 8)),
    ("seventh", (0, 4, 7, 10)),
    ("low seventh", (0, 3, 7, 10)),
    ("high seventh", (0, 4, 7, 11)),
)


def classes(notes):
    """Return the classes of notes, each once, in order."""
    return tuple(sorted({class_of(note) for note in notes}))


def steps_of_kind(kind):
    """Return the steps of a kind of chord above its root; NoSuch for no kind."""
    for name, steps in CHORDS:
        if name == kind:
            return steps
    raise NoSuch("no kind of a chord")


def chord(root, kind):
    """Return a chord's classes, the root first; NoSuch for no kind."""
    return tuple([class_of(root + step) for step in steps_of_kind(kind)])


def all_chords():
    """Return (root, kind) of all chords, by the kinds' order, then by roots."""
    return [(root, kind) for kind, _ in CHORDS for root in range(12)]


def names(notes):
    """Return (root, kind) of all chords whose classes notes just have, by the kinds' order, then by roots."""
    had = classes(notes)
    return tuple([(root, kind) for root, kind in all_chords() if classes(chord(root, kind)) == had])


def within(notes):
    """Return (root, kind) of all chords that have all classes of notes, by kinds, then roots."""
    had = classes(notes)
    return tuple([(root, kind) for root, kind in all_chords() if has_all(chord(root, kind), had)])


def has_all(row, wanted):
    """Tell whether a row has all that are wanted."""
    return all(one in row for one in wanted)


def inversion(notes):
    """Return which of a chord's notes, counted from the root, the lowest is; NoSuch for no chord."""
    found = names(notes)
    if found == ():
        raise NoSuch("no chord has just these notes")
    root, kind = found[0]
    return chord(root, kind).index(class_of(min(notes)))


def turned_chord(root, kind, by):
    """Return a chord's steps above its so-manieth note; BadSize for more than it has."""
    row = chord(root, kind)
    if not 0 <= by < len(row):
        raise BadSize("a chord hasn't so many notes")
    return tuple([class_of(one - row[by]) for one in row[by:] + row[:by]])


def close(root, kind, low):
    """Return a chord's notes as close as can be, the root the first at a note or above."""
    first = low + class_of(root - low)
    return tuple([first + step for step in steps_of_kind(kind)])


def layouts(root, kind, low, high, many):
    """Return all rows of so many rising notes from one to another that have all of a chord's classes and
    no others, in order."""
    wanted = chord(root, kind)
    if many < len(wanted):
        return ()
    notes = [note for note in range(low, high + 1) if class_of(note) in wanted]
    return tuple([row for row in combinations(notes, many) if has_all(classes(row), wanted)])


def triads_of(key):
    """Return (root, kind) of a key's chords of three, degree by degree."""
    row = key.classes()
    return tuple([names((row[place], row[(place + 2) % 7], row[(place + 4) % 7]))[0] for place in range(7)])


def common(one, other):
    """Return the classes that two chords, (root, kind), both have, in order."""
    theirs = chord(other[0], other[1])
    return tuple([here for here in classes(chord(one[0], one[1])) if here in theirs])
