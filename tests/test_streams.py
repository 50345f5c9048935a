import itertools
import random
import unittest
from fractions import Fraction

from voicewright.errors import BadTime, NoSuch
from voicewright.streams import (between, events, from_steps, is_ahead, moved_stream, notes_of, open_at, put_in,
                                 steps_between, together)

NOTES = [((0, 1), (1, 1), 60), ((0, 1), (2, 1), 64), ((1, 1), (1, 1), 60), ((3, 2), (1, 4), 55)]
STREAM = (((0, 1), 1, 60), ((0, 1), 1, 64), ((1, 1), 0, 60), ((1, 1), 1, 60), ((3, 2), 1, 55), ((7, 4), 0, 55),
          ((2, 1), 0, 60), ((2, 1), 0, 64))


def key(row):
    return (Fraction(*row[0]), row[1], row[2])


def lots(apart=False):
    """Tunes of notes; where apart, no two of the same note sound at once."""
    dice = random.Random(13)
    found = [[], NOTES]
    for many in range(1, 9):
        for _ in range(5):
            rows, free = [], {}
            for _ in range(many):
                note = dice.randrange(60, 63)
                start = Fraction(dice.randrange(9), dice.choice((1, 2, 3)))
                if apart:
                    start = max(start, free.get(note, start))
                length = Fraction(dice.randrange(1, 6), dice.choice((1, 2, 3)))
                free[note] = start + length
                rows.append((start.as_integer_ratio(), length.as_integer_ratio(), note))
            found.append(rows)
    return found


class Events(unittest.TestCase):
    def test_ordinary(self):
        self.assertEqual(events(NOTES), STREAM)
        self.assertEqual(events([]), ())
        self.assertEqual(events([((2, 4), (2, 4), 60)]), (((1, 2), 1, 60), ((1, 1), 0, 60)))

    def test_in_order(self):
        for notes in lots():
            rows = [(start, 1, note) for start, _, note in notes]
            rows += [((Fraction(*start) + Fraction(*long)).as_integer_ratio(), 0, note) for start, long, note in notes]
            self.assertEqual(events(notes), tuple(sorted(rows, key=key)))

    def test_without_a_length(self):
        for length in ((0, 1), (-1, 2)):
            with self.assertRaises(BadTime):
                events([NOTES[0], ((0, 1), length, 60)])

    def test_is_ahead(self):
        for one, other in itertools.product([*STREAM, ((1, 2), 0, 70), ((1, 2), 1, 50), ((1, 2), 1, 51)], repeat=2):
            self.assertEqual(is_ahead(one, other), key(one) < key(other))

    def test_put_in(self):
        self.assertEqual(put_in((), STREAM[0]), STREAM[:1])
        for place, one in enumerate(STREAM):
            rows = list(STREAM[:place] + STREAM[place + 1:])
            self.assertEqual(put_in(rows, one), STREAM)
            self.assertEqual(rows, list(STREAM[:place] + STREAM[place + 1:]))
        self.assertEqual(put_in(STREAM, STREAM[3]), STREAM[:4] + STREAM[3:])
        self.assertEqual(put_in(STREAM, ((5, 1), 0, 60)), STREAM + (((5, 1), 0, 60),))

    def test_together(self):
        self.assertEqual(together([STREAM[1::2], (), STREAM[::2]]), STREAM)
        self.assertEqual(together([]), ())
        self.assertEqual(together([STREAM, STREAM[:1]]), STREAM[:1] + STREAM)
        for one, other in itertools.pairwise(lots()):
            self.assertEqual(together([events(one), events(other)]), events(one + other))


class Notes(unittest.TestCase):
    def test_read_again(self):
        self.assertEqual(notes_of(STREAM), tuple(NOTES))
        self.assertEqual(notes_of(()), ())
        for notes in lots(apart=True):
            wanted = sorted(notes, key=lambda row: (Fraction(*row[0]), row[2]))
            self.assertEqual(notes_of(events(notes)), tuple(wanted))
            self.assertEqual(notes_of(list(events(notes))), tuple(wanted))

    def test_an_end_ends_the_first_open_one(self):
        notes = [((0, 1), (4, 1), 60), ((1, 1), (1, 1), 60)]
        self.assertEqual(notes_of(events(notes)), (((0, 1), (2, 1), 60), ((1, 1), (3, 1), 60)))
        stream = (((0, 1), 1, 60), ((1, 1), 1, 60), ((1, 1), 0, 60), ((2, 1), 0, 60))
        self.assertEqual(notes_of(stream), (((0, 1), (1, 1), 60), ((1, 1), (1, 1), 60)))

    def test_streams_read_again_are_the_same(self):
        for notes in lots():
            self.assertEqual(events(notes_of(events(notes))), events(notes))

    def test_out_of_order(self):
        for stream in ((((1, 1), 1, 60), ((0, 1), 0, 60)), (((1, 2), 1, 60), ((1, 3), 1, 62)),
                       (((0, 1), 1, 60), ((2, 1), 0, 60), ((1, 1), 1, 60), ((3, 1), 0, 60))):
            with self.assertRaises(BadTime):
                notes_of(stream)

    def test_nothing_open(self):
        for stream in ((((0, 1), 0, 60),), (((0, 1), 1, 60), ((1, 1), 0, 62)),
                       (((0, 1), 1, 60), ((1, 1), 0, 60), ((2, 1), 0, 60))):
            with self.assertRaises(NoSuch):
                notes_of(stream)

    def test_no_length(self):
        with self.assertRaises(BadTime):
            notes_of((((1, 1), 1, 60), ((1, 1), 0, 60)))
        with self.assertRaises(BadTime):
            notes_of([((1, 2), 1, 60), ((2, 4), 0, 60)])

    def test_no_end(self):
        for stream in ((((0, 1), 1, 60),), (((0, 1), 1, 60), ((0, 1), 1, 60), ((1, 1), 0, 60)),
                       (((0, 1), 1, 60), ((0, 1), 1, 62), ((1, 1), 0, 62))):
            with self.assertRaises(NoSuch):
                notes_of(stream)

    def test_what_is_handed_in_stays(self):
        stream = [((0, 1), 1, 60), ((0, 1), 1, 62), ((1, 1), 0, 60)]
        for refused in (notes_of, lambda rows: moved_stream(rows, (-1, 1))):
            with self.assertRaises((NoSuch, BadTime)):
                refused(stream)
        self.assertEqual(stream, [((0, 1), 1, 60), ((0, 1), 1, 62), ((1, 1), 0, 60)])


class Cut(unittest.TestCase):
    def test_moved(self):
        self.assertEqual(moved_stream(STREAM[3:5], (-1, 2)), (((1, 2), 1, 60), ((1, 1), 1, 55)))
        self.assertEqual(moved_stream([], (-1, 2)), ())
        self.assertEqual(moved_stream(STREAM[3:4], (-1, 1)), (((0, 1), 1, 60),))
        for much in ((0, 1), (1, 3), (5, 1)):
            moved = moved_stream(STREAM, much)
            self.assertEqual([key(row)[1:] for row in moved], [key(row)[1:] for row in STREAM])
            self.assertEqual({key(a)[0] - key(b)[0] for a, b in zip(moved, STREAM)}, {Fraction(*much)})
        for stream, much in ((STREAM, (-1, 100)), (STREAM[3:], (-101, 100)), (STREAM[::-1], (-1, 1))):
            with self.assertRaises(BadTime):
                moved_stream(stream, much)

    def test_between(self):
        self.assertEqual(between(STREAM, (1, 1), (7, 4)), STREAM[2:5])
        self.assertEqual(between(STREAM, (0, 1), (9, 1)), STREAM)
        self.assertEqual(between(STREAM, (1, 1), (1, 1)), ())
        self.assertEqual(between(list(STREAM), (2, 1), (1, 1)), ())

    def test_open_at(self):
        self.assertEqual(open_at(STREAM, (0, 1)), (60, 64))
        self.assertEqual(open_at(STREAM, (1, 1)), (60, 64))
        self.assertEqual(open_at(STREAM, (13, 8)), (55, 60, 64))
        self.assertEqual(open_at(STREAM, (7, 4)), (60, 64))
        self.assertEqual(open_at(STREAM, (2, 1)), ())
        self.assertEqual(open_at(STREAM, (-1, 1)), ())
        twice = (((0, 1), 1, 64), ((0, 1), 1, 60), ((1, 1), 1, 64), ((2, 1), 0, 64))
        self.assertEqual(open_at(twice, (1, 1)), (60, 64, 64))
        self.assertEqual(open_at(twice, (2, 1)), (60, 64))
        self.assertEqual(open_at([((0, 1), 0, 60), ((0, 1), 1, 60)], (0, 1)), (60,))
        for notes in lots():
            for time in ((0, 1), (1, 1), (3, 2), (7, 3), (5, 1)):
                at = Fraction(*time)
                wanted = sorted(note for start, long, note in notes
                                if Fraction(*start) <= at < Fraction(*start) + Fraction(*long))
                self.assertEqual(open_at(events(notes), time), tuple(wanted))

    def test_steps_and_back(self):
        self.assertEqual(steps_between(STREAM[2:6]),
                         (((1, 1), 0, 60), ((0, 1), 1, 60), ((1, 2), 1, 55), ((1, 4), 0, 55)))
        self.assertEqual(steps_between([]), ())
        self.assertEqual(from_steps([]), ())
        self.assertEqual(from_steps([((1, 2), 1, 60), ((2, 4), 0, 60)]), (((1, 2), 1, 60), ((1, 1), 0, 60)))
        for notes in lots():
            self.assertEqual(from_steps(steps_between(events(notes))), events(notes))
        for rows in ([((-1, 2), 1, 60)], [((1, 2), 1, 60), ((-1, 100), 0, 60)]):
            with self.assertRaises(BadTime):
                from_steps(rows)
