import itertools
import unittest

from voicewright.chords import (CHORDS, chord, classes, close, common, inversion, layouts, names, triads_of,
                                turned_chord, within)
from voicewright.errors import BadSize, NoSuch
from voicewright.keys import Key

KINDS = [("major", (0, 4, 7)), ("minor", (0, 3, 7)), ("small", (0, 3, 6)), ("wide", (0, 4, 8)),
         ("seventh", (0, 4, 7, 10)), ("low seventh", (0, 3, 7, 10)), ("high seventh", (0, 4, 7, 11))]
ALL = [(root, kind, {(root + step) % 12 for step in steps}) for kind, steps in KINDS for root in range(12)]


class Chords(unittest.TestCase):
    def test_kinds(self):
        self.assertEqual(CHORDS, tuple(KINDS))

    def test_classes(self):
        self.assertEqual(classes((67, 60, 64, 72, 48)), (0, 4, 7))
        self.assertEqual(classes([]), ())
        self.assertEqual(classes([71, 59]), (11,))

    def test_chord(self):
        for kind, steps in KINDS:
            for root in range(12):
                self.assertEqual(chord(root, kind), tuple((root + step) % 12 for step in steps))
        self.assertEqual(chord(9, "minor"), (9, 0, 4))
        for kind in ("", "Major", "low", "ninth"):
            for refused in (lambda: chord(0, kind), lambda: turned_chord(0, kind, 0), lambda: close(0, kind, 60),
                            lambda: layouts(0, kind, 60, 72, 3), lambda: common((0, kind), (0, "major")),
                            lambda: common((0, "major"), (0, kind))):
                with self.assertRaises(NoSuch):
                    refused()

    def test_names_and_within(self):
        for many in range(6):
            for lot in itertools.combinations(range(12), many):
                notes = [60 + one for one in lot] + [48 + one for one in lot[:1]]
                self.assertEqual(names(notes), tuple((root, kind) for root, kind, had in ALL if had == set(lot)))
                self.assertEqual(within(notes), tuple((root, kind) for root, kind, had in ALL if had >= set(lot)))

    def test_names_in_order(self):
        self.assertEqual(names((64, 60, 67)), ((0, "major"),))
        self.assertEqual(names((60, 64, 68)), ((0, "wide"), (4, "wide"), (8, "wide")))
        self.assertEqual(names(()), ())
        self.assertEqual(within((60, 64, 67)), ((0, "major"), (0, "seventh"), (9, "low seventh"), (0, "high seventh")))
        self.assertEqual(len(within(())), 84)

    def test_inversion(self):
        self.assertEqual(inversion((60, 64, 67)), 0)
        self.assertEqual(inversion((72, 64, 67)), 1)
        self.assertEqual(inversion((72, 64, 55)), 2)
        self.assertEqual(inversion((58, 60, 64, 67)), 3)
        self.assertEqual(inversion((64, 68, 72)), 1)
        self.assertEqual(inversion([60, 76, 67, 60]), 0)
        for notes in ((), (60,), (60, 62, 64), (60, 64)):
            with self.assertRaises(NoSuch):
                inversion(notes)

    def test_inversion_by_all(self):
        for root, kind, had in ALL:
            row = chord(root, kind)
            first = min(((place, name) for place, name in enumerate(ALL) if name[2] == had))[1]
            for lowest in row:
                notes = [72 + one for one in row] + [36 + lowest]
                self.assertEqual(inversion(notes), chord(first[0], first[1]).index(lowest))

    def test_turned_chord(self):
        self.assertEqual(turned_chord(0, "major", 0), (0, 4, 7))
        self.assertEqual(turned_chord(0, "major", 1), (0, 3, 8))
        self.assertEqual(turned_chord(5, "major", 2), (0, 5, 9))
        self.assertEqual(turned_chord(7, "seventh", 3), (0, 2, 6, 9))
        for kind, steps in KINDS:
            for by in range(len(steps)):
                wanted = sorted((step - steps[by]) % 12 for step in steps)
                self.assertEqual(turned_chord(3, kind, by), tuple(wanted))
            for by in (-1, len(steps), len(steps) + 1):
                with self.assertRaises(BadSize):
                    turned_chord(0, kind, by)

    def test_close(self):
        self.assertEqual(close(0, "major", 60), (60, 64, 67))
        self.assertEqual(close(0, "major", 61), (72, 76, 79))
        self.assertEqual(close(11, "minor", 60), (71, 74, 78))
        self.assertEqual(close(2, "seventh", 50), (50, 54, 57, 60))
        for root, kind, had in ALL:
            for low in range(48, 61):
                notes = close(root, kind, low)
                self.assertTrue(low <= notes[0] < low + 12 and notes[0] % 12 == root)
                self.assertEqual(tuple(note - notes[0] for note in notes), dict(KINDS)[kind])

    def test_layouts(self):
        for root, kind, low, high in ((0, "major", 60, 76), (9, "minor", 55, 70), (7, "seventh", 50, 66)):
            lot = {one % 12 for one in chord(root, kind)}
            for many in range(6):
                wanted = [row for row in itertools.combinations(range(low, high + 1), many)
                          if {note % 12 for note in row} == lot]
                self.assertEqual(layouts(root, kind, low, high, many), tuple(wanted))
        self.assertEqual(layouts(0, "major", 60, 67, 3), ((60, 64, 67),))
        self.assertEqual(layouts(0, "major", 60, 66, 3), ())
        self.assertEqual(layouts(0, "major", 67, 60, 3), ())

    def test_triads(self):
        self.assertEqual(triads_of(Key(0, "major")),
                         ((0, "major"), (2, "minor"), (4, "minor"), (5, "major"), (7, "major"), (9, "minor"),
                          (11, "small")))
        self.assertEqual(triads_of(Key(9, "minor")),
                         ((9, "minor"), (11, "small"), (0, "major"), (2, "minor"), (4, "minor"), (5, "major"),
                          (7, "major")))
        for root in range(12):
            for kind in ("major", "minor"):
                key = Key(root, kind)
                for degree, (name, called) in enumerate(triads_of(key)):
                    row = key.classes()
                    self.assertEqual(chord(name, called),
                                     (row[degree], row[(degree + 2) % 7], row[(degree + 4) % 7]))

    def test_common(self):
        self.assertEqual(common((0, "major"), (9, "minor")), (0, 4))
        self.assertEqual(common((7, "major"), (0, "major")), (7,))
        self.assertEqual(common((0, "major"), (6, "major")), ())
        self.assertEqual(common((11, "minor"), (7, "high seventh")), (2, 6, 11))
        for one, other in itertools.product(ALL[::5], ALL[::3]):
            self.assertEqual(common(one[:2], other[:2]), tuple(sorted(one[2] & other[2])))

    def test_what_is_handed_in_stays(self):
        notes = [67, 60, 62]
        with self.assertRaises(NoSuch):
            inversion(notes)
        names(notes), within(notes), classes(notes)
        self.assertEqual(notes, [67, 60, 62])
