import unittest

from voicewright.errors import BadNote, BadText
from voicewright.notes import (LETTERS, MOST, STEPS, Spelled, apart, check_note, class_of, moved, octave_of, read_note,
                               spellings, turned)


class Notes(unittest.TestCase):
    def test_names(self):
        self.assertEqual(LETTERS, "cdefgab")
        self.assertEqual(STEPS, (0, 2, 4, 5, 7, 9, 11))
        self.assertEqual(MOST, 120)

    def test_check_note(self):
        for note in (0, 1, 60, 119, 120):
            self.assertEqual(check_note(note), note)
        for note in (-1, 121, -12, 1000):
            with self.assertRaises(BadNote):
                check_note(note)

    def test_class_and_octave(self):
        for octave in range(11):
            for place in range(12):
                if 12 * octave + place <= MOST:
                    self.assertEqual(class_of(12 * octave + place), place)
                    self.assertEqual(octave_of(12 * octave + place), octave)

    def test_turned(self):
        self.assertEqual(turned(60, 120), 60)
        self.assertEqual(turned(64, 120), 56)
        self.assertEqual(turned(0, 120), 120)
        self.assertEqual(turned(0, 0), 0)
        for note in range(121):
            for about in (note, 120, note + 120):
                self.assertEqual(turned(turned(note, about), about), note)
        for note, about in ((61, 60), (0, 121), (120, 119)):
            with self.assertRaises(BadNote):
                turned(note, about)


class SpelledNotes(unittest.TestCase):
    def test_fields_and_shown(self):
        one = Spelled(3, -1, 4)
        self.assertEqual((one.letter, one.signs, one.octave), (3, -1, 4))
        self.assertEqual(one.shown(), (3, -1, 4))
        self.assertIs(type(one.shown()), tuple)

    def test_bounds(self):
        for letter in range(7):
            for signs in range(-2, 3):
                self.assertEqual(Spelled(letter, signs, 5).shown(), (letter, signs, 5))
        for letter, signs in ((-1, 0), (7, 0), (0, 3), (0, -3)):
            with self.assertRaises(BadNote):
                Spelled(letter, signs, 5)

    def test_note_and_place(self):
        self.assertEqual(Spelled(0, 0, 0).note(), 0)
        self.assertEqual(Spelled(0, 0, 5).note(), 60)
        self.assertEqual(Spelled(6, 1, 4).note(), 60)
        self.assertEqual(Spelled(1, -2, 5).note(), 60)
        self.assertEqual(Spelled(4, 2, 5).note(), 69)
        self.assertEqual(Spelled(0, 0, 10).note(), 120)
        self.assertEqual(Spelled(0, 0, 0).place(), 0)
        self.assertEqual(Spelled(2, 1, 5).place(), 37)
        self.assertEqual(Spelled(6, -2, 1).place(), 13)
        for one in (Spelled(0, -1, 0), Spelled(0, 1, 10), Spelled(6, 2, 9)):
            with self.assertRaises(BadNote):
                one.note()

    def test_told(self):
        self.assertEqual(Spelled(0, 0, 5).told(), "c5")
        self.assertEqual(Spelled(3, 1, 4).told(), "f#4")
        self.assertEqual(Spelled(3, 2, 0).told(), "f##0")
        self.assertEqual(Spelled(6, -1, 9).told(), "b-9")
        self.assertEqual(Spelled(2, -2, 3).told(), "e--3")
        self.assertEqual(Spelled(0, 0, 10).told(), "c10")

    def test_told_and_read_again(self):
        for letter in range(7):
            for signs in range(-2, 3):
                for octave in range(10):
                    one = Spelled(letter, signs, octave)
                    self.assertEqual(read_note(one.told()).shown(), one.shown())

    def test_texts_that_are_none(self):
        for text in ("", "c", "h4", "4", "#4", "-", "C4", " c4", "c4 ", "c44", "c10", "c#", "c-", "c###4", "c---4",
                     "c#-4", "c-#4", "c4#", "cc4", "c x", "cx", "c\n", "#c4", "c\u0664", "c ", "cd5"):
            with self.assertRaises(BadText, msg=text):
                read_note(text)

    def test_all_spellings(self):
        for note in range(121):
            found = [(abs(signs), octave, letter, signs) for letter in range(7) for signs in range(-2, 3)
                     for octave in range(-2, 12) if 12 * octave + STEPS[letter] + signs == note]
            wanted = [(letter, signs, octave) for _, octave, letter, signs in sorted(found)]
            self.assertEqual([one.shown() for one in spellings(note)], wanted)
            self.assertIs(type(spellings(note)), tuple)

    def test_order_of_spellings(self):
        self.assertEqual([one.told() for one in spellings(60)], ["c5", "b#4", "d--5"])
        self.assertEqual([one.told() for one in spellings(61)], ["c#5", "d-5", "b##4"])
        self.assertEqual([one.told() for one in spellings(68)], ["g#5", "a-5"])
        self.assertEqual([one.told() for one in spellings(70)], ["a#5", "b-5", "c--6"])
        self.assertEqual([one.told() for one in spellings(71)], ["b5", "c-6", "a##5"])
        for note in (-1, 121):
            with self.assertRaises(BadNote):
                spellings(note)

    def test_apart(self):
        self.assertEqual(apart(Spelled(0, 0, 5), Spelled(2, 0, 5)), (2, 4))
        self.assertEqual(apart(Spelled(2, 0, 5), Spelled(0, 0, 5)), (-2, -4))
        self.assertEqual(apart(Spelled(6, 0, 4), Spelled(0, -1, 5)), (1, 0))
        self.assertEqual(apart(Spelled(0, 0, 5), Spelled(6, 1, 4)), (-1, 0))
        self.assertEqual(apart(Spelled(0, 0, 4), Spelled(1, 0, 5)), (8, 14))
        self.assertIs(type(apart(Spelled(0, 0, 5), Spelled(0, 0, 5))), tuple)

    def test_moved(self):
        self.assertEqual(moved(Spelled(0, 0, 5), 2, 4).shown(), (2, 0, 5))
        self.assertEqual(moved(Spelled(0, 0, 5), 2, 3).shown(), (2, -1, 5))
        self.assertEqual(moved(Spelled(0, 0, 5), -1, -1).shown(), (6, 0, 4))
        self.assertEqual(moved(Spelled(5, 1, 5), 2, 3).shown(), (0, 1, 6))
        self.assertEqual(moved(Spelled(3, 0, 4), 7, 12).shown(), (3, 0, 5))
        self.assertEqual(moved(Spelled(0, 0, 5), 0, 2).shown(), (0, 2, 5))
        for letters, steps in ((0, 3), (0, -3), (1, 5), (-1, 2)):
            with self.assertRaises(BadNote):
                moved(Spelled(0, 0, 5), letters, steps)

    def test_moved_is_apart_turned_about(self):
        lot = [Spelled(letter, signs, octave) for letter in range(7) for signs in range(-2, 3) for octave in (3, 4)]
        for one in lot:
            for other in lot:
                letters, steps = apart(one, other)
                self.assertEqual(moved(one, letters, steps).shown(), other.shown())

    def test_refused_changes_nothing(self):
        one = Spelled(0, 2, 5)
        with self.assertRaises(BadNote):
            moved(one, 0, 1)
        self.assertEqual(one.shown(), (0, 2, 5))
