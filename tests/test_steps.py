import unittest

from voicewright.errors import BadSize
from voicewright.steps import (PERFECT, SOFT, falls_into, goes_together, inverted, is_leap, is_perfect, is_step, motion,
                               moves, runs_alike, shape, simple, size, span, top_places, way_of)


class Sounds(unittest.TestCase):
    def test_names(self):
        self.assertEqual(PERFECT, (0, 7))
        self.assertEqual(SOFT, (3, 4, 8, 9))

    def test_size_and_simple(self):
        self.assertEqual(size(60, 67), 7)
        self.assertEqual(size(67, 60), 7)
        self.assertEqual(size(60, 60), 0)
        self.assertEqual(size(60, 84), 24)
        self.assertEqual(simple(60, 67), 7)
        self.assertEqual(simple(79, 60), 7)
        self.assertEqual(simple(60, 72), 0)
        self.assertEqual(simple(71, 60), 11)

    def test_which_go_together(self):
        for octaves in range(4):
            for apart in range(12):
                low, high = 30, 30 + 12 * octaves + apart
                for one, other in ((low, high), (high, low)):
                    self.assertIs(goes_together(one, other), apart in (0, 3, 4, 7, 8, 9))
                    self.assertIs(is_perfect(one, other), apart in (0, 7))

    def test_steps_and_leaps(self):
        for apart in range(-14, 15):
            self.assertIs(is_step(60, 60 + apart), apart in (-2, -1, 1, 2))
            self.assertIs(is_leap(60, 60 + apart), abs(apart) > 4)

    def test_way_of(self):
        self.assertEqual(way_of(60, 61), 1)
        self.assertEqual(way_of(60, 72), 1)
        self.assertEqual(way_of(61, 60), -1)
        self.assertEqual(way_of(72, 60), -1)
        self.assertEqual(way_of(60, 60), 0)


class Motions(unittest.TestCase):
    def test_all_motions(self):
        self.assertEqual(motion(60, 60, 67, 67), "still")
        self.assertEqual(motion(60, 62, 67, 67), "one")
        self.assertEqual(motion(60, 60, 67, 65), "one")
        self.assertEqual(motion(60, 62, 67, 65), "apart")
        self.assertEqual(motion(62, 60, 67, 69), "apart")
        self.assertEqual(motion(60, 58, 67, 70), "apart")
        self.assertEqual(motion(60, 62, 67, 71), "along")
        self.assertEqual(motion(62, 60, 67, 64), "along")
        self.assertEqual(motion(60, 62, 67, 69), "alike")
        self.assertEqual(motion(62, 60, 67, 65), "alike")

    def test_runs_alike(self):
        self.assertIs(runs_alike(60, 62, 67, 69), True)
        self.assertIs(runs_alike(60, 62, 72, 74), True)
        self.assertIs(runs_alike(60, 62, 60, 74), True)
        self.assertIs(runs_alike(60, 58, 67, 77), True)
        self.assertIs(runs_alike(67, 69, 60, 62), True)
        self.assertIs(runs_alike(60, 60, 67, 67), False)
        self.assertIs(runs_alike(60, 60, 60, 72), False)
        self.assertIs(runs_alike(60, 72, 72, 72), False)
        self.assertIs(runs_alike(60, 62, 67, 74), False)
        self.assertIs(runs_alike(60, 62, 64, 66), False)
        self.assertIs(runs_alike(60, 62, 64, 69), False)
        self.assertIs(runs_alike(60, 62, 67, 71), False)

    def test_falls_into(self):
        self.assertIs(falls_into(60, 62, 65, 69), True)
        self.assertIs(falls_into(62, 60, 71, 67), True)
        self.assertIs(falls_into(60, 64, 61, 64), True)
        self.assertIs(falls_into(60, 62, 67, 69), False)
        self.assertIs(falls_into(60, 62, 68, 69), False)
        self.assertIs(falls_into(60, 62, 72, 69), False)
        self.assertIs(falls_into(60, 62, 65, 68), False)
        self.assertIs(falls_into(60, 60, 64, 67), False)
        self.assertIs(falls_into(60, 64, 71, 71), False)
        self.assertIs(falls_into(55, 60, 71, 72), False)
        self.assertIs(falls_into(59, 60, 67, 72), True)

    def test_both_by_all_moves(self):
        for low_next in range(55, 66):
            for high in range(55, 85):
                for high_next in range(50, 90):
                    first, then = abs(high - 60) % 12, abs(high_next - low_next) % 12
                    alike = first in (0, 7) and then == first and low_next != 60 and high != high_next
                    self.assertIs(runs_alike(60, low_next, high, high_next), alike)
                    falls = then in (0, 7) and (low_next - 60) * (high_next - high) > 0 and abs(high_next - high) > 2
                    self.assertIs(falls_into(60, low_next, high, high_next), falls)


class Tunes(unittest.TestCase):
    def test_inverted(self):
        for steps in range(1, 12):
            self.assertEqual(inverted(steps), 12 - steps)
        for steps in range(12):
            self.assertEqual(inverted(inverted(steps)), steps)
        for steps in (-1, 12, 13, -12):
            with self.assertRaises(BadSize):
                inverted(steps)

    def test_shape_and_moves(self):
        self.assertEqual(shape((60, 64, 64, 59)), (1, 0, -1))
        self.assertEqual(moves([60, 64, 64, 59]), (4, 0, -5))
        for tune in ((), (60,), [], [60]):
            self.assertEqual(shape(tune), ())
            self.assertEqual(moves(tune), ())

    def test_span(self):
        self.assertEqual(span((60, 72, 55)), 17)
        self.assertEqual(span([60]), 0)
        for tune in ((), []):
            with self.assertRaises(BadSize):
                span(tune)

    def test_top_places(self):
        self.assertEqual(top_places((60, 72, 55, 72)), (1, 3))
        self.assertEqual(top_places([60]), (0,))
        self.assertEqual(top_places([60, 60]), (0, 1))
        self.assertEqual(top_places(()), ())

    def test_what_is_handed_in_stays(self):
        tune = [60, 72, 55]
        shape(tune), moves(tune), span(tune), top_places(tune)
        self.assertEqual(tune, [60, 72, 55])
