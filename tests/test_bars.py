import itertools
import unittest
from fractions import Fraction

from voicewright.bars import Meter, cut_at_bars, many_written, power, sorted_down, tied, written, written_note
from voicewright.errors import BadTime

METERS = [(4, (1, 4), (2,)), (3, (1, 8), ()), (1, (2, 1), (0,)), (7, (3, 16), [4, 2]), (2, (5, 3), (1, 0))]
TIMES = [(0, 1), (1, 16), (1, 8), (1, 4), (1, 3), (3, 4), (1, 1), (7, 5), (2, 1), (9, 2), (10, 3), (105, 16), (50, 1)]


def part(worth):
    return (worth.numerator, worth.denominator)


def worth(one):
    return Fraction(*one)


class Meters(unittest.TestCase):
    def test_fields(self):
        made = Meter(4, (2, 8), [3, 2, 3])
        self.assertEqual((made.beats, made.length, made.strong), (4, (1, 4), (0, 2, 3)))
        self.assertEqual(Meter(3, (1, 8)).strong, (0,))
        self.assertEqual(Meter(3, (1, 8), (0, 1)).strong, (0, 1))

    def test_refused(self):
        for beats, length, strong in ((0, (1, 4), ()), (-1, (1, 4), ()), (4, (1, 4), (4,)), (4, (1, 4), (-1,)),
                                      (4, (1, 4), (0, 5)), (4, (0, 1), ()), (4, (-1, 4), ()), (4, (1, 0), ())):
            with self.assertRaises(BadTime):
                Meter(beats, length, strong)

    def test_bar(self):
        self.assertEqual(Meter(4, (1, 4)).bar(), (1, 1))
        self.assertEqual(Meter(3, (1, 8)).bar(), (3, 8))
        self.assertEqual(Meter(7, (3, 16)).bar(), (21, 16))

    def test_place_put_together_is_the_time(self):
        for beats, length, strong in METERS:
            made = Meter(beats, length, strong)
            for time in TIMES:
                number, beat, rest = made.place(time)
                self.assertTrue(0 <= beat < beats and 0 <= worth(rest) < worth(length))
                self.assertEqual(rest, part(worth(rest)))
                self.assertEqual((number * beats + beat) * worth(length) + worth(rest), worth(time))

    def test_place(self):
        self.assertEqual(Meter(4, (1, 4)).place((0, 1)), (0, 0, (0, 1)))
        self.assertEqual(Meter(4, (1, 4)).place((15, 8)), (1, 3, (1, 8)))
        self.assertEqual(Meter(3, (1, 8)).place((3, 8)), (1, 0, (0, 1)))

    def test_weight(self):
        made = Meter(4, (1, 4), (2,))
        self.assertEqual([made.weight((k, 8)) for k in range(10)], [2, 0, 0, 0, 1, 0, 0, 0, 2, 0])
        for beats, length, strong in METERS:
            made = Meter(beats, length, strong)
            for time in TIMES:
                many = worth(time) / worth(length)
                wanted = 0
                if many.denominator == 1:
                    beat = many.numerator % beats
                    wanted = 2 if beat == 0 else 1 if beat in strong else 0
                self.assertEqual(made.weight(time), wanted)

    def test_next_bar(self):
        made = Meter(4, (1, 4))
        self.assertEqual(made.next_bar((0, 1)), (1, 1))
        self.assertEqual(made.next_bar((1, 1)), (2, 1))
        self.assertEqual(made.next_bar((1, 3)), (1, 1))
        for beats, length, strong in METERS:
            made = Meter(beats, length, strong)
            for time in TIMES:
                bar = beats * worth(length)
                self.assertEqual(made.next_bar(time), part((worth(time) // bar + 1) * bar))

    def test_ahead_of_nought(self):
        made = Meter(4, (1, 4))
        for refused in (made.place, made.weight, made.next_bar, lambda time: cut_at_bars(made, time, (9, 1)),
                        lambda time: written_note(made, time, (1, 4), ((1, 4),))):
            for time in ((-1, 4), (-1, 1), (-1, 100)):
                with self.assertRaises(BadTime):
                    refused(time)


class Cut(unittest.TestCase):
    def test_cut(self):
        made = Meter(4, (1, 4))
        self.assertEqual(cut_at_bars(made, (1, 2), (2, 1)), (((1, 2), (1, 2)), ((1, 1), (1, 1)), ((2, 1), (1, 2))))
        self.assertEqual(cut_at_bars(made, (0, 1), (1, 1)), (((0, 1), (1, 1)),))
        self.assertEqual(cut_at_bars(made, (1, 1), (3, 8)), (((1, 1), (3, 8)),))
        self.assertEqual(cut_at_bars(made, (2, 4), (2, 4)), (((1, 2), (1, 2)),))

    def test_parts_make_the_note(self):
        for beats, length, strong in METERS:
            made = Meter(beats, length, strong)
            bar = worth(made.bar())
            for start, long in itertools.product(TIMES, TIMES[1:]):
                parts = cut_at_bars(made, start, long)
                here = worth(start)
                for place, (begin, much) in enumerate(parts):
                    self.assertEqual(worth(begin), here)
                    self.assertGreater(worth(much), 0)
                    if place > 0:
                        self.assertEqual(here % bar, 0)
                    self.assertLessEqual(here + worth(much), (here // bar + 1) * bar)
                    here += worth(much)
                self.assertEqual(here, worth(start) + worth(long))

    def test_refused(self):
        for length in ((0, 1), (-1, 4), (1, 0)):
            with self.assertRaises(BadTime):
                cut_at_bars(Meter(4, (1, 4)), (0, 1), length)


class Written(unittest.TestCase):
    def test_written(self):
        self.assertEqual(written((1, 1), 2, 1), ((3, 2), (1, 1), (3, 4), (1, 2), (3, 8), (1, 4)))
        self.assertEqual(written((2, 1), 0, 3), ((15, 4), (7, 2), (3, 1), (2, 1)))
        self.assertEqual(written((1, 4), 0, 0), ((1, 4),))
        self.assertEqual(written((1, 4), 1, -1), ())
        self.assertEqual(written((1, 4), -1, 1), ())
        for most, halvings, points in itertools.product(((1, 1), (3, 2), (5, 7)), range(5), range(4)):
            wanted = set()
            for halved, many in itertools.product(range(halvings + 1), range(points + 1)):
                here = worth(most) / 2 ** halved
                wanted.add(sum((here / 2 ** k for k in range(many + 1)), Fraction(0)))
            self.assertEqual(written(most, halvings, points), tuple(map(part, sorted(wanted, reverse=True))))

    def test_power(self):
        self.assertEqual([power(count) for count in range(6)], [1, 2, 4, 8, 16, 32])

    def test_sorted_down(self):
        self.assertEqual(sorted_down([(1, 4), (1, 2), (2, 8), (3, 8), (1, 2)]), ((1, 2), (3, 8), (1, 4)))
        self.assertEqual(sorted_down(()), ())


class Tied(unittest.TestCase):
    def by_all(self, length, lengths, most):
        rows = sorted({worth(one) for one in lengths}, reverse=True)
        for many in range(1, most + 1):
            for row in itertools.combinations_with_replacement(rows, many):
                if sum(row) == worth(length):
                    return tuple(map(part, row))
        return None

    def test_by_trying_all(self):
        for lengths in (written((1, 1), 3, 1), written((1, 1), 2, 0), written((1, 2), 2, 2), ((1, 4),),
                        ((1, 3), (1, 4), (1, 7)), ((5, 8), (1, 2), (1, 8)), ((1, 8), (3, 8), (1, 2))):
            for top in range(1, 27):
                for length in ((top, 8), (top, 12)):
                    for most in (1, 2, 4):
                        wanted = self.by_all(length, lengths, most)
                        if wanted is None:
                            with self.assertRaises(BadTime):
                                tied(length, lengths, most)
                        else:
                            self.assertEqual(tied(length, lengths, most), wanted)

    def test_ordinary(self):
        lengths = written((1, 1), 4, 1)
        self.assertEqual(tied((5, 8), lengths), ((1, 2), (1, 8)))
        self.assertEqual(tied((10, 16), lengths), ((1, 2), (1, 8)))
        self.assertEqual(tied((3, 4), lengths), ((3, 4),))
        self.assertEqual(tied((1, 1), [(1, 4)]), ((1, 4),) * 4)
        self.assertEqual(tied((3, 1), lengths), ((3, 2), (3, 2)))
        self.assertEqual(tied((1, 1), ((1, 2), (3, 4), (1, 4))), ((3, 4), (1, 4)))

    def test_past_so_many(self):
        self.assertEqual(tied((6, 4), ((1, 4),)), ((1, 4),) * 6)
        self.assertEqual(tied((7, 4), ((1, 4),), 7), ((1, 4),) * 7)
        for most, top in ((6, 7), (2, 3), (0, 1), (-1, 1)):
            with self.assertRaises(BadTime):
                tied((top, 4), ((1, 4),), most)
        with self.assertRaises(BadTime):
            tied((7, 4), ((1, 4),))

    def test_cannot_be(self):
        for length in ((1, 3), (1, 32), (0, 1), (-1, 4), (1, 0)):
            with self.assertRaises(BadTime):
                tied(length, written((1, 1), 4, 0))
        with self.assertRaises(BadTime):
            tied((1, 4), ())

    def test_long_lengths(self):
        self.assertEqual(tied((90, 1), written((15, 1), 9, 0)), ((15, 1),) * 6)
        with self.assertRaises(BadTime):
            tied((9000, 1), written((1, 1), 6, 2))


class Notes(unittest.TestCase):
    def test_written_note(self):
        made = Meter(4, (1, 4))
        lengths = written((1, 1), 4, 1)
        self.assertEqual(written_note(made, (3, 8), (2, 1), lengths), (((1, 2), (1, 8)), ((1, 1),), ((3, 8),)))
        self.assertEqual(written_note(made, (0, 1), (1, 4), lengths), (((1, 4),),))
        with self.assertRaises(BadTime):
            written_note(made, (1, 3), (1, 1), lengths)
        with self.assertRaises(BadTime):
            written_note(made, (0, 1), (0, 1), lengths)

    def test_many_written(self):
        made = Meter(4, (1, 4))
        lengths = written((1, 1), 4, 1)
        self.assertEqual(many_written(made, [((3, 8), (2, 1)), ((0, 1), (1, 4))], lengths), 5)
        self.assertEqual(many_written(made, (), lengths), 0)
        with self.assertRaises(BadTime):
            many_written(made, [((0, 1), (1, 4)), ((0, 1), (1, 3))], lengths)

    def test_what_is_handed_in_stays(self):
        made = Meter(4, (1, 4), (2,))
        lengths = [(1, 4), (1, 2)]
        with self.assertRaises(BadTime):
            tied((1, 3), lengths)
        with self.assertRaises(BadTime):
            made.place((-1, 2))
        self.assertEqual((made.beats, made.length, made.strong, lengths), (4, (1, 4), (0, 2), [(1, 4), (1, 2)]))
