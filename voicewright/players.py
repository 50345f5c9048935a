"""Players: notes that sound at once, and the fewest players of one note each that can play them, with a paper."""

from voicewright.errors import BadPaper
from voicewright.parts import as_wholes, check_length, greatest, is_less, part, plus


def check_notes(notes):
    """Return notes, (start, length, note), as they are; BadTime for one without a length."""
    for row in notes:
        check_length(row[1])
    return [tuple(row) for row in notes]


def order_of(notes):
    """Return the places of notes by their starts, those alike by their places."""
    starts = as_wholes([row[0] for row in notes])
    return [place for _, place in sorted([(start, place) for place, start in enumerate(starts)])]


def spans_of(rows):
    """Return the (start, end) of each note in whole numbers of one unit."""
    whole = as_wholes([*[row[0] for row in rows], *[plus(row[0], row[1]) for row in rows]])
    return list(zip(whole[:len(rows)], whole[len(rows):]))


def first_free(ends, start):
    """Return the first player whose last note ends at a start or ahead of it, a new one where none does."""
    for player, end in enumerate(ends):
        if end <= start:
            return player
    return len(ends)


def players_of(notes):
    """Return the player of each note: the first that is free when it starts."""
    rows = check_notes(notes)
    spans = spans_of(rows)
    players = [0] * len(rows)
    ends = []
    for place in order_of(rows):
        start, end = spans[place]
        player = first_free(ends, start)
        if player == len(ends):
            ends.append(end)
        ends[player] = end
        players[place] = player
    return tuple(players)


def sounding(notes, time):
    """Return the places of the notes that sound at a time, from their starts on, not at their ends."""
    return tuple([place for place, (start, length, _) in enumerate(check_notes(notes))
                  if not is_less(time, start) and is_less(time, plus(start, length))])


def fullest(notes):
    """Return (the first start at which most notes sound, their places); None for no notes."""
    rows = check_notes(notes)
    if rows == []:
        return None
    spans = spans_of(rows)
    ends = sorted([end for _, end in spans])
    over = 0
    best = (0, 0)
    for begun, place in enumerate(order_of(rows)):
        # Of starts that are alike the last one counts all notes; those ahead count fewer, so they never win wrongly.
        while ends[over] <= spans[place][0]:
            over += 1
        if begun + 1 - over > best[0]:
            best = (begun + 1 - over, place)
    top, low = rows[best[1]][0]
    return (part(top, low), sounding(rows, (top, low)))


def fewest(notes):
    """Return how many players are needed at least."""
    found = fullest(notes)
    return 0 if found is None else len(found[1])


def check_players(notes, players, time):
    """Return how many players there are where none plays two at once and as many sound at a time; BadPaper."""
    rows = check_notes(notes)
    if len(players) != len(rows):
        raise BadPaper("another count of players than of notes")
    spans = spans_of(rows)
    ends = {}
    for place in order_of(rows):
        start, end = spans[place]
        if start < ends.get(players[place], start):
            raise BadPaper("a player plays two notes at once")
        ends[players[place]] = end
    if len(ends) != (len(sounding(rows, time)) if rows != [] else 0):
        raise BadPaper("not as many notes sound as there are players")
    return len(ends)


def part_of(notes, players, player):
    """Return a player's notes, by their starts."""
    rows = check_notes(notes)
    return tuple([rows[place] for place in order_of(rows) if players[place] == player])


def overlaps(notes):
    """Return the (lower place, upper place) of notes that sound at once, in order."""
    spans = spans_of(check_notes(notes))
    return tuple([(low, high) for low, (start, end) in enumerate(spans) for high in range(low + 1, len(spans))
                  if start < spans[high][1] and spans[high][0] < end])


def end_of(notes):
    """Return the last end of notes, nought for none."""
    ends = [plus(start, length) for start, length, _ in check_notes(notes)]
    found = ends[0] if ends != [] else (0, 1)
    for end in ends:
        found = greatest(found, end)
    return found
