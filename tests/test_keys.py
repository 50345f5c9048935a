import itertools
import unittest

from voicewright.errors import BadNote, BadSize
from voicewright.keys import (KINDS, Key, all_keys, fifths, keys_of, nearest_key, outside, shares, signs_of,
                              spelled_in)
from voicewright.notes import spellings

MAJOR = (0, 2, 4, 5, 7, 9, 11)
MINOR = (0, 2, 3, 5, 7, 8, 10)
ALL = [(root, kind) for kind in ("major", "minor") for root in range(12)]


def lot_of(root, kind):
    return [(root + step) % 12 for step in (MAJOR if kind == "major" else MINOR)]


class Keys(unittest.TestCase):
    def test_kinds(self):
        self.assertEqual(KINDS, {"major": MAJOR, "minor": MINOR})

    def test_classes_and_fields(self):
        for root, kind in ALL:
            key = Key(root, kind)
            self.assertEqual((key.root, key.kind), (root, kind))
            self.assertEqual(key.shown(), (root, kind))
            self.assertEqual(key.classes(), tuple(lot_of(root, kind)))
        self.assertEqual(Key(7, "major").classes(), (7, 9, 11, 0, 2, 4, 6))
        self.assertEqual(Key(9, "minor").classes(), (9, 11, 0, 2, 4, 5, 7))

    def test_no_key(self):
        for root, kind in ((-1, "major"), (12, "minor"), (0, "low"), (0, ""), (0, "Major")):
            with self.assertRaises(BadSize):
                Key(root, kind)

    def test_has_and_degree(self):
        for root, kind in ALL:
            key = Key(root, kind)
            lot = lot_of(root, kind)
            for note in range(-30, 130):
                self.assertIs(key.has(note), note % 12 in lot)
                if note % 12 in lot:
                    self.assertEqual(key.degree(note), lot.index(note % 12))
                else:
                    for refused in (key.degree, key.place, lambda one: key.moved(one, 1)):
                        with self.assertRaises(BadNote):
                            refused(note)

    def test_places_through_octaves(self):
        for root, kind in ALL:
            key = Key(root, kind)
            self.assertEqual(key.place(root), 0)
            self.assertEqual(key.at(0), root)
            had = [note for note in range(root - 60, root + 121) if key.has(note)]
            below = len([note for note in had if note < root])
            for number, note in enumerate(had):
                self.assertEqual(key.place(note), number - below)
                self.assertEqual(key.at(number - below), note)

    def test_moved(self):
        key = Key(2, "major")
        self.assertEqual(key.moved(62, 2), 66)
        self.assertEqual(key.moved(62, -1), 61)
        self.assertEqual(key.moved(62, 7), 74)
        self.assertEqual(key.moved(62, -14), 38)
        self.assertEqual(key.moved(1, -1), -1)
        self.assertEqual(key.moved(-1, 2), 2)
        self.assertEqual(key.moved(62, 0), 62)

    def test_between(self):
        key = Key(7, "major")
        self.assertEqual(key.between(60, 67), (60, 62, 64, 66, 67))
        self.assertEqual(key.between(61, 65), (62, 64))
        self.assertEqual(key.between(62, 62), (62,))
        self.assertEqual(key.between(61, 61), ())
        self.assertEqual(key.between(67, 60), ())

    def test_all_keys(self):
        self.assertEqual([key.shown() for key in all_keys()], ALL)
        self.assertIs(type(all_keys()), tuple)


class KeysOfTunes(unittest.TestCase):
    def test_keys_of(self):
        self.assertEqual([key.shown() for key in keys_of((60, 62, 64, 65, 67, 69, 71))], [(0, "major"), (9, "minor")])
        self.assertEqual([key.shown() for key in keys_of((60, 61, 62))], [])
        self.assertEqual([key.shown() for key in keys_of(())], ALL)
        for tune in itertools.combinations((60, 62, 63, 66, 69, 73), 3):
            wanted = [(root, kind) for root, kind in ALL if all(note % 12 in lot_of(root, kind) for note in tune)]
            self.assertEqual([key.shown() for key in keys_of(tune)], wanted)
        self.assertIs(type(keys_of([60])), tuple)

    def test_outside(self):
        self.assertEqual(outside(Key(0, "major"), (60, 61, 61, 63, 64)), 3)
        self.assertEqual(outside(Key(0, "major"), ()), 0)

    def test_nearest_key(self):
        self.assertEqual(nearest_key(()).shown(), (0, "major"))
        self.assertEqual(nearest_key((60, 62, 64, 65, 67, 69, 71)).shown(), (0, "major"))
        self.assertEqual(nearest_key((60, 62, 64, 65, 67, 71, 69)).shown(), (9, "minor"))
        self.assertEqual(nearest_key((69,)).shown(), (9, "major"))
        self.assertEqual(nearest_key((67, 66, 67)).shown(), (7, "major"))
        self.assertEqual(nearest_key((61, 60)).shown(), (1, "major"))
        self.assertEqual(nearest_key((67, 63, 60)).shown(), (0, "minor"))

    def test_nearest_key_by_all(self):
        for tune in itertools.product((60, 61, 63, 66, 70, 71), repeat=4):
            found = [(len([note for note in tune if note % 12 not in lot_of(root, kind)]), tune[-1] % 12 != root, place)
                     for place, (root, kind) in enumerate(ALL)]
            self.assertEqual(nearest_key(tune).shown(), ALL[min(found)[2]])

    def test_shares(self):
        for one in ALL:
            for other in ALL:
                both = set(lot_of(*one)) & set(lot_of(*other))
                self.assertEqual(shares(Key(*one), Key(*other)), len(both))


class Spelling(unittest.TestCase):
    def test_fifths(self):
        wanted = {0: 0, 7: 1, 2: 2, 9: 3, 4: 4, 11: 5, 6: 6, 5: -1, 10: -2, 3: -3, 8: -4, 1: -5}
        for root in range(12):
            self.assertEqual(fifths(Key(root, "major")), wanted[root])
            self.assertEqual(fifths(Key((root + 9) % 12, "minor")), wanted[root])

    def test_signs(self):
        self.assertEqual(signs_of(0), (0, 0, 0, 0, 0, 0, 0))
        self.assertEqual(signs_of(1), (0, 0, 0, 1, 0, 0, 0))
        self.assertEqual(signs_of(2), (1, 0, 0, 1, 0, 0, 0))
        self.assertEqual(signs_of(3), (1, 0, 0, 1, 1, 0, 0))
        self.assertEqual(signs_of(4), (1, 1, 0, 1, 1, 0, 0))
        self.assertEqual(signs_of(5), (1, 1, 0, 1, 1, 1, 0))
        self.assertEqual(signs_of(6), (1, 1, 1, 1, 1, 1, 0))
        self.assertEqual(signs_of(7), (1, 1, 1, 1, 1, 1, 1))
        self.assertEqual(signs_of(-1), (0, 0, 0, 0, 0, 0, -1))
        self.assertEqual(signs_of(-2), (0, 0, -1, 0, 0, 0, -1))
        self.assertEqual(signs_of(-3), (0, 0, -1, 0, 0, -1, -1))
        self.assertEqual(signs_of(-4), (0, -1, -1, 0, 0, -1, -1))
        self.assertEqual(signs_of(-5), (0, -1, -1, 0, -1, -1, -1))
        self.assertEqual(signs_of(-6), (-1, -1, -1, 0, -1, -1, -1))
        self.assertEqual(signs_of(-7), (-1, -1, -1, -1, -1, -1, -1))
        for many in (8, -8, 20):
            with self.assertRaises(BadSize):
                signs_of(many)

    def test_spelled_in(self):
        self.assertEqual([spelled_in(Key(2, "major"), note).told() for note in (62, 64, 66, 67, 69, 71, 73)],
                         ["d5", "e5", "f#5", "g5", "a5", "b5", "c#6"])
        self.assertEqual([spelled_in(Key(1, "major"), note).told() for note in (61, 63, 65, 66, 68, 70, 72)],
                         ["d-5", "e-5", "f5", "g-5", "a-5", "b-5", "c6"])
        self.assertEqual(spelled_in(Key(6, "major"), 65).told(), "e#5")
        self.assertEqual(spelled_in(Key(0, "minor"), 63).told(), "e-5")

    def test_one_letter_for_each_degree(self):
        for root, kind in ALL:
            key = Key(root, kind)
            for low in (root, root + 48):
                notes = [low + step for step in (MAJOR if kind == "major" else MINOR)]
                spelled = [spelled_in(key, note) for note in notes]
                self.assertEqual([one.note() for one in spelled], notes)
                letters = [one.letter for one in spelled]
                self.assertEqual(letters, [(letters[0] + degree) % 7 for degree in range(7)])
                for one, note in zip(spelled, notes):
                    self.assertIn(one.shown(), [other.shown() for other in spellings(note)])
                    self.assertEqual(one.signs, signs_of(fifths(key))[one.letter])

    def test_spelled_in_refused(self):
        for root, kind in ALL:
            for note in range(48, 60):
                if note % 12 not in lot_of(root, kind):
                    with self.assertRaises(BadNote):
                        spelled_in(Key(root, kind), note)

    def test_refused_changes_nothing(self):
        key = Key(0, "major")
        with self.assertRaises(BadNote):
            key.degree(61)
        self.assertEqual((key.shown(), key.classes()), ((0, "major"), MAJOR))
