"""Notes: half steps counted from the lowest c on, and notes spelled by a letter, signs and an octave."""

from voicewright.errors import BadNote, BadText

LETTERS = "cdefgab"
STEPS = (0, 2, 4, 5, 7, 9, 11)
MOST = 120


def check_note(note):
    """Return a note, half steps from nought to the most; BadNote."""
    if not 0 <= note <= MOST:
        raise BadNote("a note is out of range")
    return note


def class_of(note):
    """Return a note's place among the twelve, c nought."""
    return note % 12


def octave_of(note):
    """Return how many octaves a note is above the lowest c."""
    return note // 12


def plain_steps(letter, octave):
    """Return the half steps of a letter without signs."""
    return 12 * octave + STEPS[letter]


def steps_of(one):
    """Return a spelled note's half steps, also where they are out of range."""
    return plain_steps(one.letter, one.octave) + one.signs


class Spelled:
    """A letter's number, c nought, signs (above nought sharps, below flats) and an octave."""

    def __init__(self, letter, signs, octave):
        """Keep the three; BadNote for no letter, or more than two signs."""
        if not 0 <= letter < 7 or not -2 <= signs <= 2:
            raise BadNote("no letter, or more than two signs")
        self.letter = letter
        self.signs = signs
        self.octave = octave

    def note(self):
        """Return its half steps; BadNote out of range."""
        return check_note(steps_of(self))

    def place(self):
        """Return its place among letters of all octaves."""
        return 7 * self.octave + self.letter

    def shown(self):
        """Return (letter, signs, octave)."""
        return (self.letter, self.signs, self.octave)

    def told(self):
        """Return it as it is written: letter, # or - for each sign, octave."""
        mark = "#" if self.signs > 0 else "-"
        return LETTERS[self.letter] + mark * abs(self.signs) + str(self.octave)


def read_note(text):
    """Return the spelled note of a text; BadText."""
    if text == "" or text[0] not in LETTERS:
        raise BadText("a note begins with a letter")
    mark = text[1:2]
    rest = text[1:]
    if mark in ("#", "-"):
        rest = rest.lstrip(mark)
    many = len(text) - 1 - len(rest)
    if len(rest) != 1 or rest not in "0123456789" or many > 2:
        raise BadText("a note ends with two signs at most and an octave of one figure")
    signs = many if mark == "#" else -many
    return Spelled(LETTERS.index(text[0]), signs, int(rest))


def spellings(note):
    """Return all spellings of a note with two signs at most, the fewest signs first, then by octaves, then letters."""
    check_note(note)
    found = []
    for letter in range(7):
        for signs in range(-2, 3):
            rest = note - signs - STEPS[letter]
            if rest % 12 == 0:
                found.append((abs(signs), rest // 12, letter, signs))
    return tuple([Spelled(letter, signs, octave) for _, octave, letter, signs in sorted(found)])


def apart(one, other):
    """Return (letters, half steps) from one spelled note to another, below nought down."""
    return (other.place() - one.place(), steps_of(other) - steps_of(one))


def moved(one, letters, steps):
    """Return the spelled note so many letters and half steps on; BadNote where it needs more than two signs."""
    place = one.place() + letters
    letter = place % 7
    octave = place // 7
    return Spelled(letter, steps_of(one) + steps - plain_steps(letter, octave), octave)


def turned(note, about):
    """Return a note turned over about twice a middle; BadNote out of range."""
    return check_note(about - note)
