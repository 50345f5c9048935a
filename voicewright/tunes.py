"""Tunes: lengths with notes or rests, put together, cut, stretched and written in words."""

from voicewright.errors import BadSize, BadText, BadTime
from voicewright.notes import read_note, spellings, turned
from voicewright.parts import check_length, greatest, is_less, least, minus, part, plus, times, total
from voicewright.players import order_of

FIGURES = "0123456789"


def check_tune(rows):
    """Return a tune, (length, note or None for a rest), lengths made small; BadTime."""
    return tuple([(check_length(length), note) for length, note in rows])


def long(tune):
    """Return how long a tune is."""
    return total([length for length, _ in tune])


def placed(tune):
    """Return (start, length, note or None) of a tune's notes and rests."""
    found = []
    here = (0, 1)
    for length, note in check_tune(tune):
        found.append((here, length, note))
        here = plus(here, length)
    return found


def timed(tune):
    """Return (start, length, note) of a tune's notes, rests left out."""
    return tuple([(start, length, note) for start, length, note in placed(tune) if note is not None])


def untimed(notes):
    """Return the tune of (start, length, note) that don't sound at once, by their order; BadTime where two do."""
    found = []
    here = (0, 1)
    for place in order_of(notes):
        start, length, note = notes[place]
        if is_less(start, here):
            raise BadTime("notes sound at once, or ahead of nought")
        if is_less(here, start):
            found.append((minus(start, here), None))
        found.append((check_length(length), note))
        here = plus(start, length)
    return tuple(found)


def up(tune, steps):
    """Return a tune so many half steps up."""
    return tuple([(tuple(length), note + steps if note is not None else None) for length, note in tune])


def over(tune, about):
    """Return a tune turned over about twice a middle; BadNote."""
    return tuple([(tuple(length), turned(note, about) if note is not None else None) for length, note in tune])


def back(tune):
    """Return a tune from its end on."""
    return tuple([(tuple(length), note) for length, note in tune[::-1]])


def stretched(tune, much):
    """Return a tune that takes so much as long; BadTime for nothing."""
    by_much = check_length(much)
    return tuple([(times(length, by_much), note) for length, note in tune])


def cut(tune, start, end):
    """Return what of a tune sounds from a time on, ahead of another; BadTime for times that don't rise."""
    if is_less(end, start) or start[0] < 0:
        raise BadTime("times don't rise from nought on")
    found = []
    for begin, length, note in placed(tune):
        first = greatest(begin, start)
        last = least(plus(begin, length), end)
        if is_less(first, last):
            found.append((minus(last, first), note))
    return tuple(found)


def joined(tune):
    """Return a tune whose neighbouring rests are one."""
    found = []
    for length, note in check_tune(tune):
        if note is None and found != [] and found[-1][1] is None:
            found[-1] = (plus(found[-1][0], length), None)
        else:
            found.append((length, note))
    return tuple(found)


def at(tune, time):
    """Return the note that sounds at a time, None for a rest or behind the end; BadTime ahead of nought."""
    if time[0] < 0:
        raise BadTime("a time ahead of nought")
    for start, length, note in placed(tune):
        if not is_less(time, start) and is_less(time, plus(start, length)):
            return note
    return None


def told(tune):
    """Return a tune's words, blanks between: a length as top/low, a colon, the note's first spelling or a stroke."""
    words = []
    for (top, low), note in check_tune(tune):
        name = spellings(note)[0].told() if note is not None else "-"
        words.append(f"{top}/{low}:{name}")
    return " ".join(words)


def read_tune(text):
    """Return the tune of words; BadText, BadTime, BadNote."""
    return tuple([read_word(word) for word in text.split()])


def read_word(word):
    """Return the (length, note or None) of a word; BadText, BadTime, BadNote."""
    length, mark, name = word.partition(":")
    top, slash, low = length.partition("/")
    if mark == "" or slash == "" or not is_number(top) or not is_number(low):
        raise BadText("a word begins with a length and a colon")
    made = check_length((int(top), int(low)))
    return (made, read_note(name).note() if name != "-" else None)


def is_number(word):
    """Tell whether a word is one to three figures."""
    return 0 < len(word) < 4 and word.strip(FIGURES) == ""


def repeated(tune, many):
    """Return a tune so often on end; BadSize below nought."""
    if many < 0:
        raise BadSize("a tune comes nought times at least")
    return tuple([(tuple(length), note) for length, note in tune]) * many


def filled(tune, length):
    """Return a tune with a rest behind it up to a length; BadTime where it is longer."""
    top, low = minus(part(length[0], length[1]), long(tune))
    if top < 0:
        raise BadTime("a tune that is longer")
    rests = [((top, low), None)] if top > 0 else []
    return tuple([*[(tuple(one), note) for one, note in tune], *rests])
