"""Desks: lines said to a given line and its best counter line, answered, written down and done again."""

from voicewright.canons import all_canons
from voicewright.errors import (BadLine, BadNote, BadPaper, BadSize, BadStore, BadText, BadTime, MusicFault, NoLine,
                                NoSuch)
from voicewright.keys import KINDS, Key
from voicewright.kept import Kept
from voicewright.lines import Rules, how_many
from voicewright.notes import class_of, read_note, spellings

FIGURES = "0123456789"
BASE = 9973
WIDE = 2000003

# The words that are said alone and change nothing.
ASKED = ("line", "given", "cost", "count", "check")

# The most half steps that a desk's notes range over.
WIDEST = 36


def number(word):
    """Return the number of a word of one to three figures; BadText."""
    if not 0 < len(word) < 4 or word.strip(FIGURES) != "":
        raise BadText("a number has one to three figures")
    return int(word)


def read_notes(words):
    """Return the half steps of words, each a note; BadText, BadNote."""
    return [read_note(word).note() for word in words]


def told_note(note):
    """Return a note as its first spelling is written."""
    return spellings(note)[0].told()


def told_notes(notes):
    """Return notes as they are written, blanks between."""
    return " ".join([told_note(note) for note in notes])


def told_cost(cost):
    """Return a cost as it is answered, "none" where no line keeps all."""
    return "none" if cost is None else str(cost)


def figure_of(text):
    """Return a text's figure: its signs' numbers added up, then weighed by their places from one on."""
    numbers = [ord(sign) for sign in text]
    weighed = sum([place * one for place, one in enumerate(numbers, start=1)])
    return sum(numbers) % WIDE * BASE + weighed % BASE


class Desk:
    """A given line kept with its best counter line, or nothing, and the text of what was done."""

    def __init__(self):
        """Begin with nothing kept and nothing written."""
        self.kept = None
        self.text = ""
        self.many = 0

    def say(self, line):
        """Do or answer a line; return the answer, "error: ..." for what is refused."""
        try:
            return self.do(line)
        except BadText:
            return "error: text"
        except BadNote:
            return "error: note"
        except BadLine:
            return "error: line"
        except NoLine:
            return "error: none"
        except BadSize:
            return "error: size"
        except BadTime:
            return "error: time"
        except BadPaper:
            return "error: paper"
        except NoSuch:
            return "error: no such"

    def do(self, line):
        """Do or answer a line by its first word; what changes something is written down; BadText."""
        words = line.split()
        if words == []:
            raise BadText("a bare line")
        word = words[0]
        if word == "open" and len(words) == 4 and words[1] in KINDS:
            return self.begin(words)
        if word == "given" and len(words) > 2:
            return self.put(words)
        if word == "canons" and len(words) == 3:
            return self.canons(number(words[1]), number(words[2]))
        if word in ASKED and len(words) == 1:
            return self.answer(word)
        raise BadText("no line of a desk")

    def begin(self, words):
        """Begin with a key's notes between two, a bare given line; return the cost; BadText, BadNote, BadSize."""
        low, high = read_notes(words[2:])
        if not low < high <= low + WIDEST:
            raise BadSize("no range of one to thirty-six half steps")
        key = Key(class_of(low), words[1])
        self.kept = Kept((), Rules(key.between(low, high)))
        return self.written(words)

    def put(self, words):
        """Take given notes out and put others in, by a line's words; return the cost."""
        place = number(words[1])
        many = number(words[2])
        kept = self.here()
        kept.change(place, many, read_notes(words[3:]))
        return self.written(words)

    def canons(self, most, furthest):
        """Return the delays and shifts at which the given line may follow itself, up to the greatest ones."""
        shifts = list(range(0 - furthest, furthest + 1))
        found = all_canons(self.here().given, list(range(1, most + 1)), shifts)
        return " ".join([f"{delay}:{shift}" for delay, shift in found])

    def here(self):
        """Return what is kept; NoSuch for nothing."""
        if self.kept is None:
            raise NoSuch("nothing is begun")
        return self.kept

    def written(self, words):
        """Write a done line with its number and figure; return the new cost, "none" where no line keeps all."""
        body = " ".join([str(self.many), *words])
        self.text += f"{body} {figure_of(body)}\n"
        self.many += 1
        return told_cost(self.here().cost())

    def answer(self, word):
        """Return the best line, its cost, the given line, how many keep all, or the cost that the paper shows."""
        kept = self.here()
        if word == "line":
            return told_notes(kept.line())
        if word == "given":
            return told_notes(kept.given)
        if word == "count":
            return str(how_many(kept.given, kept.rules))
        if word == "check":
            return str(kept.check())
        return told_cost(kept.cost())


def lines_of(text):
    """Return the lines of a written text, a row without an end left out; BadStore."""
    found = []
    for place, row in enumerate(text.split("\n")[:-1]):
        body, _, figure = row.rpartition(" ")
        head, _, line = body.partition(" ")
        if head != str(place) or figure != str(figure_of(body)):
            raise BadStore("a row that isn't whole")
        found.append(line)
    return tuple(found)


def done_again(text):
    """Return the desk that a text's lines make from nothing; BadStore for what can't be."""
    desk = Desk()
    for line in lines_of(text):
        try:
            desk.do(line)
        except MusicFault:
            raise BadStore("a line that is refused")
    # Only lines that may change something are written, and with just one blank between their words.
    if desk.text != text[:text.rfind("\n") + 1]:
        raise BadStore("rows that a desk doesn't write")
    return desk
