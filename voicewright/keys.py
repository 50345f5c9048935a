"""Keys: seven of the twelve, their degrees, and spellings with the fewest signs."""

from voicewright.errors import BadNote, BadSize
from voicewright.notes import STEPS, Spelled, class_of

KINDS = {"major": (0, 2, 4, 5, 7, 9, 11), "minor": (0, 2, 3, 5, 7, 8, 10)}

# The letters in the order in which fifths up make them sharp: f, c, g, d, a, e, b.
SHARPENED = (3, 0, 4, 1, 5, 2, 6)


class Key:
    """A lowest class and a kind."""

    def __init__(self, root, kind):
        """Keep both; BadSize for no class or no kind."""
        if not 0 <= root < 12 or kind not in KINDS:
            raise BadSize("no class or no kind of a key")
        self.root = root
        self.kind = kind

    def classes(self):
        """Return its seven classes, the root first."""
        return tuple([class_of(self.root + step) for step in KINDS[self.kind]])

    def has(self, note):
        """Tell whether a note is one of the key's."""
        return class_of(note) in self.classes()

    def degree(self, note):
        """Return a note's place among the seven, the root nought; BadNote for one that isn't the key's."""
        if not self.has(note):
            raise BadNote("a note isn't the key's")
        return self.classes().index(class_of(note))

    def place(self, note):
        """Return a note's place among the key's notes of all octaves; BadNote."""
        return self.degree(note) + 7 * ((note - self.root) // 12)

    def at(self, place):
        """Return the note at a place among the key's notes of all octaves."""
        return self.root + 12 * (place // 7) + KINDS[self.kind][place % 7]

    def moved(self, note, degrees):
        """Return a note so many of the key's degrees on; BadNote."""
        return self.at(self.place(note) + degrees)

    def between(self, low, high):
        """Return the key's notes from one to another, both too, in order."""
        return tuple([note for note in range(low, high + 1) if self.has(note)])

    def shown(self):
        """Return (root, kind)."""
        return (self.root, self.kind)


def all_keys():
    """Return all keys, major ones first, by their roots."""
    return tuple([Key(root, kind) for kind in ("major", "minor") for root in range(12)])


def keys_of(tune):
    """Return the keys that have all notes of a tune, in order."""
    return tuple([key for key in all_keys() if outside(key, tune) == 0])


def outside(key, tune):
    """Return how many notes of a tune aren't a key's."""
    return len([note for note in tune if not key.has(note)])


def ends_on_root(key, tune):
    """Tell whether a tune's last note is a key's root."""
    return len(tune) > 0 and class_of(tune[-1]) == key.root


def nearest_key(tune):
    """Return the first key with the fewest notes of a tune outside, those ending on its root ahead of others."""
    nearest = None
    least = None
    for key in all_keys():
        rank = (outside(key, tune), 0 if ends_on_root(key, tune) else 1)
        if least is None or rank < least:
            nearest = key
            least = rank
    return nearest


def shares(one, other):
    """Return how many classes two keys have both."""
    return len([here for here in one.classes() if other.has(here)])


def fifths(key):
    """Return how many fifths a major key's root, or a minor key's third, is from c, from minus five to six."""
    root = key.root if key.kind == "major" else key.root + 3
    # Seven is its own inverse among the twelve, so seven times a class counts the fifths up to it.
    many = 7 * root % 12
    return many if many <= 6 else many - 12


def signs_of(many):
    """Return the signs of the seven letters for so many fifths up, or down below nought; BadSize past seven."""
    if not -7 <= many <= 7:
        raise BadSize("there are signs for seven fifths at most")
    sharp = SHARPENED[:max(many, 0)]
    flat = SHARPENED[7 + min(many, 0):]
    return tuple([(1 if letter in sharp else 0) - (1 if letter in flat else 0) for letter in range(7)])


def spelled_in(key, note):
    """Return a key's note as the key spells it, a letter for each degree; BadNote."""
    key.degree(note)
    signs = signs_of(fifths(key))
    for letter in range(7):
        rest = note - STEPS[letter] - signs[letter]
        if rest % 12 == 0:
            return Spelled(letter, signs[letter], rest // 12)
    raise BadNote("no letter of the key has this note")
