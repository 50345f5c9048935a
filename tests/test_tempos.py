import itertools
import unittest
from fractions import Fraction

from voicewright.errors import BadTime
from voicewright.tempos import Tempos, even_change, meets, merged

CHANGES = [
    [((0, 1), (1, 2))],
    [((0, 1), (1, 2)), ((4, 1), (1, 3))],
    [((0, 1), (1, 1)), ((1, 2), (2, 3)), ((5, 3), (1, 7)), ((6, 1), (5, 4))],
    [((0, 1), (1, 3)), ((2, 1), (1, 3)), ((3, 1), (1, 2))],
]
BEATS = [(0, 1), (1, 7), (1, 2), (1, 1), (5, 3), (2, 1), (11, 4), (3, 1), (4, 1), (6, 1), (13, 2), (100, 3)]


def part(worth):
    return (worth.numerator, worth.denominator)


def time_by_pieces(changes, beat):
    beat = Fraction(*beat)
    starts = [Fraction(*start) for start, _ in changes]
    whole = Fraction(0)
    for start, end, (_, length) in zip(starts, [*starts[1:], None], changes):
        until = beat if end is None else min(beat, end)
        if until > start:
            whole += (until - start) * Fraction(*length)
    return part(whole)


class Tempo(unittest.TestCase):
    def test_fields(self):
        made = Tempos(([(0, 5), (2, 4)], ((6, 2), (3, 1))))
        self.assertEqual(made.changes, [((0, 1), (1, 2)), ((3, 1), (3, 1))])
        self.assertEqual(made.shown(), (((0, 1), (1, 2)), ((3, 1), (3, 1))))

    def test_what_is_handed_in_is_copied(self):
        changes = [((0, 1), (1, 2)), ((4, 1), (1, 3))]
        made = Tempos(changes)
        changes.pop()
        self.assertEqual(len(made.changes), 2)

    def test_refused(self):
        for changes in ([], (), [((1, 1), (1, 2))], [((-1, 1), (1, 2)), ((0, 1), (1, 2))],
                        [((0, 1), (1, 2)), ((0, 1), (1, 3))], [((0, 1), (1, 2)), ((2, 1), (1, 3)), ((2, 1), (1, 2))],
                        [((0, 1), (1, 2)), ((3, 1), (1, 3)), ((2, 1), (1, 2))], [((0, 1), (0, 1))],
                        [((0, 1), (-1, 2))], [((0, 1), (1, 2)), ((1, 1), (0, 1))], [((0, 1), (1, 0))]):
            with self.assertRaises(BadTime):
                Tempos(changes)

    def test_time_is_the_sum_of_what_beats_take(self):
        for changes in CHANGES:
            for beat in BEATS:
                self.assertEqual(Tempos(changes).time_of(beat), time_by_pieces(changes, beat))
        self.assertEqual(Tempos(CHANGES[1]).time_of((4, 1)), (2, 1))
        self.assertEqual(Tempos(CHANGES[1]).time_of((6, 1)), (8, 3))

    def test_beat_at_turns_it_back(self):
        for changes in CHANGES:
            made = Tempos(changes)
            for beat in BEATS:
                self.assertEqual(made.beat_at(made.time_of(beat)), beat)
                self.assertEqual(made.time_of(made.beat_at(beat)), beat)

    def test_length_at(self):
        made = Tempos(CHANGES[2])
        self.assertEqual([made.length_at(beat) for beat in ((0, 1), (1, 3), (1, 2), (1, 1), (5, 3), (5, 1), (9, 1))],
                         [(1, 1), (1, 1), (2, 3), (2, 3), (1, 7), (1, 7), (5, 4)])

    def test_ahead_of_nought(self):
        made = Tempos(CHANGES[1])
        for refused in (made.time_of, made.beat_at, made.length_at, lambda time: meets(made, made, [(1, 1), time]),
                        lambda beat: made.changed(beat, (1, 2))):
            for time in ((-1, 1), (-1, 50)):
                with self.assertRaises(BadTime):
                    refused(time)

    def test_changed(self):
        made = Tempos(CHANGES[1])
        self.assertEqual(made.changed((4, 1), (1, 5)).shown(), (((0, 1), (1, 2)), ((4, 1), (1, 5))))
        self.assertEqual(made.changed((8, 2), (1, 5)).shown(), (((0, 1), (1, 2)), ((4, 1), (1, 5))))
        self.assertEqual(made.changed((0, 1), (2, 10)).shown(), (((0, 1), (1, 5)), ((4, 1), (1, 3))))
        self.assertEqual(made.changed((1, 2), (1, 5)).shown(),
                         (((0, 1), (1, 2)), ((1, 2), (1, 5)), ((4, 1), (1, 3))))
        self.assertEqual(made.changed((9, 2), (1, 3)).shown(),
                         (((0, 1), (1, 2)), ((4, 1), (1, 3)), ((9, 2), (1, 3))))
        for beat, length in (((1, 1), (0, 1)), ((1, 1), (-1, 2)), ((-1, 2), (1, 2))):
            with self.assertRaises(BadTime):
                made.changed(beat, length)
        self.assertEqual(made.changes, CHANGES[1])

    def test_stretched(self):
        for changes, much in itertools.product(CHANGES, ((2, 1), (1, 3), (7, 5), (1, 1))):
            made = Tempos(changes)
            longer = made.stretched(much)
            self.assertEqual([beat for beat, _ in longer.changes], [beat for beat, _ in changes])
            for beat in BEATS:
                self.assertEqual(Fraction(*longer.time_of(beat)), Fraction(*made.time_of(beat)) * Fraction(*much))
            self.assertEqual(made.changes, changes)
        for much in ((0, 1), (-2, 1), (1, 0)):
            with self.assertRaises(BadTime):
                Tempos(CHANGES[0]).stretched(much)


class More(unittest.TestCase):
    def test_merged(self):
        made = Tempos(CHANGES[3])
        self.assertEqual(merged(made).shown(), (((0, 1), (1, 3)), ((3, 1), (1, 2))))
        self.assertEqual(made.changes, CHANGES[3])
        made = Tempos([((k, 1), (1 + (k > 2), 1)) for k in range(6)] + [((9, 1), (1, 1))])
        self.assertEqual(merged(made).shown(), (((0, 1), (1, 1)), ((3, 1), (2, 1)), ((9, 1), (1, 1))))
        for changes in CHANGES:
            for beat in BEATS:
                self.assertEqual(merged(Tempos(changes)).time_of(beat), Tempos(changes).time_of(beat))

    def test_meets(self):
        one, other = Tempos([((0, 1), (1, 2))]), Tempos([((0, 1), (1, 3))])
        self.assertEqual(meets(one, other, [(k, 6) for k in range(13)]), ((0, 1), (1, 1), (2, 1)))
        self.assertEqual(meets(one, other, [(2, 1), (1, 2), (0, 1), (1, 1)]), ((0, 1), (1, 1), (2, 1)))
        self.assertEqual(meets(one, other, []), ())
        one, other = Tempos(CHANGES[3]), Tempos(CHANGES[1])
        rows = [part(Fraction(k, 12)) for k in range(200)]
        wanted = [time for time in rows if one.beat_at(time)[1] == 1 and other.beat_at(time)[1] == 1]
        self.assertEqual(meets(one, other, rows[::-1]), tuple(wanted))
        self.assertGreater(len(wanted), 1)

    def test_even_change(self):
        self.assertEqual(even_change((4, 1), (1, 2), (1, 1), 2), (((4, 1), (1, 2)), ((5, 1), (3, 4)), ((6, 1), (1, 1))))
        self.assertEqual(even_change((1, 2), (1, 1), (1, 4), 3),
                         (((1, 2), (1, 1)), ((3, 2), (3, 4)), ((5, 2), (1, 2)), ((7, 2), (1, 4))))
        self.assertEqual(even_change((0, 1), (1, 2), (1, 2), 1), (((0, 1), (1, 2)), ((1, 1), (1, 2))))
        for steps in (0, -1):
            with self.assertRaises(BadTime):
                even_change((0, 1), (1, 2), (1, 1), steps)
        for steps in range(1, 9):
            rows = even_change((0, 1), (1, 3), (2, 1), steps)
            self.assertEqual((rows[0], rows[-1]), (((0, 1), (1, 3)), ((steps, 1), (2, 1))))
            lengths = [Fraction(*length) for _, length in rows]
            self.assertEqual(len({b - a for a, b in zip(lengths, lengths[1:])}), 1)
            self.assertEqual([Fraction(*beat) for beat, _ in rows], list(range(steps + 1)))
            self.assertEqual(Tempos(rows).shown(), rows)
