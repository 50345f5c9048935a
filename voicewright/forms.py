"""Forms: what comes again in a row of phrases, and the shortest way to write it with repeats."""

from voicewright.errors import BadPaper, BadSize

LETTERS = "abcdefghijklmnopqrstuvwxyz"


def form_of(phrases):
    """Return a text of letters for phrases, one for like ones, in order of first coming; BadSize past twenty-six."""
    seen = []
    found = []
    for phrase in phrases:
        if phrase not in seen:
            if len(seen) == len(LETTERS):
                raise BadSize("more than twenty-six phrases")
            seen.append(phrase)
        found.append(LETTERS[seen.index(phrase)])
    return "".join(found)


def phrases_of(tune, long):
    """Return a tune cut in phrases of so many notes, the last perhaps shorter; BadSize below one."""
    if long < 1:
        raise BadSize("a phrase has one note at least")
    return tuple([tuple(tune[place:place + long]) for place in range(0, len(tune), long)])


def parts_in(row):
    """Return (begin, end) of all parts of a row, bare ones too, the shorter ones first."""
    return [(low, low + long) for long in range(len(row) + 1) for low in range(len(row) - long + 1)]


def costs(row):
    """Return a table of (begin, end), bare parts too, to the least signs that write one: letters, or a part again and
    one sign."""
    table = {}
    for low, high in parts_in(row):
        table[low, high] = least_signs(row, low, high, table)
    return table


def least_signs(row, low, high, table):
    """Return the least signs that write a part, by the table of all shorter ones."""
    plain = high - low
    cut = min([table[low, k] + table[k, high] for k in range(low + 1, high)], default=plain)
    again = min([table[low, low + part] + 1 for part in parts_again(row, low, high)], default=plain)
    return min(plain, cut, again)


def parts_again(row, low, high):
    """Return how long the parts are that make a part of a row by coming again whole, the shortest first."""
    long = high - low
    return [part for part in range(1, long // 2 + 1) if long % part == 0 and is_again(row[low:high], part)]


def is_again(row, part):
    """Tell whether a row is its first so many letters again and again, the last time perhaps cut short."""
    return len(row) == 0 or (part > 0 and row[part:] == row[:max(len(row) - part, 0)])


def shortest(row):
    """Return a shortest writing: letters, or (part, how often); plain, then cut as early as can be, then repeated."""
    return write(row, 0, len(row), costs(row))


def write(row, low, high, table):
    """Return the writing of a part by a table of costs."""
    found = []
    here = low
    # What is behind a cut is written here too, and only what is ahead of it by a call of its own.
    while table.get((here, high)) != high - here:
        cut = first_cut(here, high, table)
        if cut is None:
            return (*found, repeat_of(row, here, high, table))
        found.extend(write(row, here, cut, table))
        here = cut
    return (*found, *row[here:high])


def first_cut(low, high, table):
    """Return the first place that cuts a part so that both pieces cost what it costs, None for none."""
    for k in range(low + 1, high):
        if (low, k) in table and (k, high) in table and table[low, k] + table[k, high] == table.get((low, high)):
            return k
    return None


def repeat_of(row, low, high, table):
    """Return the (part, how often) that writes a part at its cost, the shortest part; BadPaper."""
    for part in parts_again(row, low, high):
        if (low, low + part) in table and table[low, low + part] + 1 == table.get((low, high)):
            return (write(row, low, low + part, table), (high - low) // part)
    raise BadPaper("a table of costs by which nothing can be written")


def unfolded(writing):
    """Return the row that a writing stands for; BadSize for a repeat below two or of nothing, or no letter."""
    found = []
    for one in writing:
        if isinstance(one, str):
            if len(one) != 1:
                raise BadSize("no letter")
            found.append(one)
        else:
            part, many = one
            if many < 2 or len(part) == 0:
                raise BadSize("a repeat of nothing or below two")
            found.append(unfolded(part) * many)
    return "".join(found)


def size_of(writing):
    """Return how many signs a writing has: letters, and one for each repeat."""
    return sum([1 if isinstance(one, str) else size_of(one[0]) + 1 for one in writing])


def check_writing(row, writing, table):
    """Return the signs of a writing that stands for a row and a table shows to be least; BadPaper."""
    for low, high in parts_in(row):
        if (low, high) not in table or table[low, high] > least_signs(row, low, high, table):
            raise BadPaper("a part is left out or too dear")
    # A row may be handed in as a tuple of letters, though it is told as a text.
    if list(unfolded(writing)) != list(row):
        raise BadPaper("a writing of another row")
    signs = size_of(writing)
    if signs != table[0, len(row)]:
        raise BadPaper("a writing that isn't shown to be least")
    return signs


def mirrors(row):
    """Return (begin, end) of the longest part that is itself from its end on, the first; (0, 0) for none."""
    for long in range(len(row), 0, -1):
        for low in range(len(row) - long + 1):
            part = row[low:low + long]
            if part == part[::-1]:
                return (low, low + long)
    return (0, 0)
