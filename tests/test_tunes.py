import random
import unittest
from fractions import Fraction

from voicewright.errors import BadNote, BadSize, BadText, BadTime
from voicewright.tunes import (FIGURES, at, back, check_tune, cut, filled, is_number, joined, long, over, read_tune,
                               repeated, stretched, timed, told, untimed, up)

TUNE = (((1, 4), 60), ((1, 8), None), ((1, 8), 62), ((1, 2), 60), ((1, 4), None))
NO_LENGTHS = ((0, 1), (-1, 2), (1, 0), (0, -3))


def part(worth):
    return (worth.numerator, worth.denominator)


def tunes():
    dice = random.Random(31)
    rows = [(), (((1, 1), None),), (((3, 2), 60),), TUNE, (((1, 2), None), ((1, 2), None), ((1, 3), 60))]
    for _ in range(30):
        rows.append(tuple((part(Fraction(dice.randrange(1, 7), dice.choice((1, 2, 3, 8)))),
                           dice.choice((None, 60, 61, 70))) for _ in range(dice.randrange(1, 7))))
    return rows


def spans(tune):
    """Rows of (begin, end, note or None) by fractions."""
    found, here = [], Fraction(0)
    for length, note in tune:
        found.append((here, here + Fraction(*length), note))
        here += Fraction(*length)
    return found


class Tunes(unittest.TestCase):
    def test_lengths_are_made_small(self):
        self.assertEqual(check_tune([((2, 4), 60), [(3, 1), None], ((-1, -2), 5)]),
                         (((1, 2), 60), ((3, 1), None), ((1, 2), 5)))
        self.assertEqual(check_tune([]), ())

    def test_no_length(self):
        for length in NO_LENGTHS:
            wrong = [((1, 4), 60), (length, None)]
            for refused in (check_tune, timed, joined, told, lambda tune: cut(tune, (0, 1), (1, 8)),
                            lambda tune: at(tune, (0, 1))):
                with self.assertRaises(BadTime):
                    refused(wrong)
            self.assertEqual(wrong, [((1, 4), 60), (length, None)])

    def test_long(self):
        for tune in tunes():
            self.assertEqual(long(tune), part(sum((Fraction(*length) for length, _ in tune), Fraction(0))))
        self.assertEqual(long([]), (0, 1))
        with self.assertRaises(BadTime):
            long([((1, 0), 60)])

    def test_up_and_over(self):
        self.assertEqual(up(list(TUNE), 5), (((1, 4), 65), ((1, 8), None), ((1, 8), 67), ((1, 2), 65), ((1, 4), None)))
        self.assertEqual(up((), 5), ())
        self.assertEqual(over(TUNE, 120), (((1, 4), 60), ((1, 8), None), ((1, 8), 58), ((1, 2), 60), ((1, 4), None)))
        for tune in tunes():
            self.assertEqual(up(up(tune, 7), -7), tune)
            self.assertEqual(over(over(tune, 121), 121), tune)
        for about in (59, 182):
            with self.assertRaises(BadNote):
                over(TUNE, about)
        self.assertEqual(over((((1, 1), None),), 900), (((1, 1), None),))

    def test_back_and_repeated(self):
        for tune in tunes():
            self.assertEqual(back(tune), tuple(reversed(tune)))
            self.assertEqual(back(list(tune)), tuple(reversed(tune)))
            for many in range(4):
                self.assertEqual(repeated(list(tune), many), tune * many)
            with self.assertRaises(BadSize):
                repeated(tune, -1)

    def test_stretched(self):
        self.assertEqual(stretched(TUNE[:3], (2, 1)), (((1, 2), 60), ((1, 4), None), ((1, 4), 62)))
        for tune in tunes():
            for much in ((1, 3), (5, 2), (4, 2)):
                self.assertEqual(Fraction(*long(stretched(tune, much))), Fraction(*long(tune)) * Fraction(*much))
                self.assertEqual([note for _, note in stretched(tune, much)], [note for _, note in tune])
        for much in NO_LENGTHS:
            for tune in (TUNE, ()):
                with self.assertRaises(BadTime):
                    stretched(tune, much)

    def test_joined(self):
        self.assertEqual(joined([((1, 4), None), ((1, 4), None), ((1, 8), 60), ((1, 8), 60), ((1, 2), None)]),
                         (((1, 2), None), ((1, 8), 60), ((1, 8), 60), ((1, 2), None)))
        for tune in tunes():
            found = joined(tune)
            self.assertFalse(any(a[1] is None and b[1] is None for a, b in zip(found, found[1:])))
            self.assertEqual(long(found), long(tune))
            self.assertEqual(timed(found), timed(tune))

    def test_filled(self):
        self.assertEqual(filled([((1, 4), 60)], (2, 2)), (((1, 4), 60), ((3, 4), None)))
        self.assertEqual(filled(TUNE, (5, 4)), TUNE)
        self.assertEqual(filled(TUNE, (3, 2)), TUNE + (((1, 4), None),))
        self.assertEqual(filled((), (0, 1)), ())
        self.assertEqual(filled((), (1, 2)), (((1, 2), None),))
        for tune, length in ((TUNE, (6, 5)), ((), (-1, 2)), (TUNE, (0, 1)), (TUNE, (1, 0))):
            with self.assertRaises(BadTime):
                filled(tune, length)


class Times(unittest.TestCase):
    def test_timed_and_back(self):
        self.assertEqual(timed(TUNE), (((0, 1), (1, 4), 60), ((3, 8), (1, 8), 62), ((1, 2), (1, 2), 60)))
        for tune in tunes():
            notes = timed(tune)
            self.assertEqual(notes, tuple((part(start), part(end - start), note)
                                          for start, end, note in spans(tune) if note is not None))
            whole = joined(tune)
            if whole and whole[-1][1] is None:
                whole = whole[:-1]
            self.assertEqual(untimed(notes), whole)
            self.assertEqual(untimed(list(notes)[::-1]), whole)

    def test_untimed_puts_rests_ahead_and_between(self):
        self.assertEqual(untimed([((2, 4), (1, 4), 60), ((1, 1), (2, 2), 62)]),
                         (((1, 2), None), ((1, 4), 60), ((1, 4), None), ((1, 1), 62)))
        self.assertEqual(untimed([((0, 1), (1, 1), 60), ((1, 1), (1, 1), 60)]), (((1, 1), 60), ((1, 1), 60)))
        self.assertEqual(untimed(()), ())

    def test_untimed_refused(self):
        for notes in ([((0, 1), (1, 2), 60), ((1, 4), (1, 4), 62)], [((0, 1), (1, 2), 60), ((0, 1), (1, 2), 60)],
                      [((1, 4), (1, 4), 62), ((0, 1), (1, 2), 60)], [((-1, 4), (1, 4), 62)],
                      [((0, 1), (0, 1), 60)], [((0, 1), (-1, 2), 60)]):
            with self.assertRaises(BadTime):
                untimed(notes)

    def test_cut(self):
        self.assertEqual(cut(TUNE, (1, 8), (3, 4)), (((1, 8), 60), ((1, 8), None), ((1, 8), 62), ((1, 4), 60)))
        self.assertEqual(cut(TUNE, (0, 1), (9, 1)), TUNE)
        for tune in tunes():
            for start, end in ((0, 0), (0, 2), (1, 3), (2, 2), (7, 9), (50, 60)):
                low, high = Fraction(start, 3), Fraction(end, 3)
                wanted = tuple((part(min(last, high) - max(first, low)), note) for first, last, note in spans(tune)
                               if min(last, high) > max(first, low))
                self.assertEqual(cut(tune, part(low), part(high)), wanted)
            self.assertEqual(joined(cut(tune, (0, 1), (1, 1)) + cut(tune, (1, 1), (99, 1))) != (), tune != ())
        for start, end in (((1, 2), (1, 4)), ((-1, 4), (1, 2)), ((0, 1), (-1, 8))):
            with self.assertRaises(BadTime):
                cut(TUNE, start, end)

    def test_at(self):
        for tune in tunes():
            for time in [Fraction(k, 24) for k in range(0, 200, 5)] + [end for _, end, _ in spans(tune)]:
                wanted = [note for first, last, note in spans(tune) if first <= time < last]
                self.assertEqual(at(tune, part(time)), wanted[0] if wanted else None)
        self.assertEqual(at(TUNE, (3, 8)), 62)
        self.assertEqual(at(TUNE, (1, 2)), 60)
        self.assertIsNone(at(TUNE, (1, 4)))
        self.assertIsNone(at(TUNE, (5, 4)))
        self.assertIsNone(at((), (0, 1)))
        with self.assertRaises(BadTime):
            at(TUNE, (-1, 8))


class Words(unittest.TestCase):
    TEXT = "1/4:c5 1/8:- 1/8:d5 1/2:c5 1/4:-"

    def test_told(self):
        self.assertEqual(told(TUNE), self.TEXT)
        self.assertEqual(told([((2, 8), 61), ((999, 1), 70), ((1, 100), 0)]), "1/4:c#5 999/1:a#5 1/100:c0")
        self.assertEqual(told(()), "")

    def test_read_again(self):
        for tune in tunes():
            self.assertEqual(read_tune(told(tune)), tune)
        for note in range(120):
            self.assertEqual(read_tune(told([((1, 1), note)])), (((1, 1), note),))
        self.assertEqual(read_tune("2/8:b#4 999/333:c--5 010/020:e##5  100/200:-"),
                         (((1, 4), 60), ((3, 1), 58), ((1, 2), 66), ((1, 2), None)))
        self.assertEqual(read_tune(""), ())
        self.assertEqual(read_tune("  "), ())

    def test_notes_out_of_range(self):
        for note in (-1, 121):
            with self.assertRaises(BadNote):
                told([((1, 4), note)])
        for text in ("1/4:c-0", "1/4:b##9", "1/4:c5 1/4:c--0"):
            with self.assertRaises(BadNote):
                read_tune(text)

    def test_no_text(self):
        for word in ("c5", "1/4", "1/4c5", ":c5", "/:c5", "1/:c5", "/4:c5", "14:c5", "1/4:", "1/4:h5", "1/4:c", "x/4:c5",
                     "1/x:c5", "1000/1:c5", "1/1000:c5", "-1/4:c5", "1/-4:c5", "+1/4:c5", "1/4/4:c5", "1/4:c5:",
                     "1/4:c55", "1/4:--", "1/4:c###5", "1/4:c#-5", "1 /4:c5", "1/4: c5", "\u0661/4:c5", "1/4:C5"):
            with self.assertRaises(BadText):
                read_tune(word)
            with self.assertRaises(BadText):
                read_tune(self.TEXT + " " + word)

    def test_no_times(self):
        for word in ("0/4:c5", "1/0:c5", "0/0:-", "000/1:c5"):
            with self.assertRaises(BadTime):
                read_tune(word)
            with self.assertRaises(BadTime):
                read_tune("1/4:c5 " + word + " x")
        with self.assertRaises(BadTime):
            read_tune("0/4:h5")

    def test_is_number(self):
        self.assertEqual(FIGURES, "0123456789")
        for word in ("0", "7", "12", "007", "999"):
            self.assertIs(is_number(word), True)
        for word in ("", "1000", "1a", "-1", "+1", " 1", "1 ", "1_0", "\u0661", "\u00b2", "1.0"):
            self.assertIs(is_number(word), False)
