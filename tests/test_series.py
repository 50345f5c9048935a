import itertools
import random
import unittest

from voicewright.errors import BadSize
from voicewright.series import (all_fits, all_forms_of, check_series, fits_halves, form, from_step_row, has_all_steps,
                                places_alike, same_order, square, steps_in, which)

KINDS = ("plain", "back", "turned", "back turned")
PLAIN = tuple(range(12))
ROW = (0, 11, 3, 4, 8, 7, 9, 5, 6, 1, 2, 10)
WHOLE = (0, 1, 11, 2, 10, 3, 9, 4, 8, 5, 7, 6)
WRONG = ((), PLAIN[:-1], PLAIN + (0,), (1,) * 12, tuple(range(1, 13)), (0,) + PLAIN[:-1], (-1,) + PLAIN[1:])


def some_rows():
    dice = random.Random(19)
    return [PLAIN, ROW, WHOLE, PLAIN[::-1]] + [tuple(dice.sample(range(12), 12)) for _ in range(6)]


def form_by_words(row, kind, steps):
    turned = [row[0] - (one - row[0]) for one in row]
    found = {"plain": row, "back": row[::-1], "turned": turned, "back turned": turned[::-1]}[kind]
    return tuple((one + steps) % 12 for one in found)


def longest_in_order(one, other):
    for many in range(12, -1, -1):
        rows = [row for row in itertools.combinations(one, many)
                if list(row) == sorted(row, key=list(other).index)]
        if rows:
            return min(rows)


class Series(unittest.TestCase):
    def test_check_series(self):
        self.assertEqual(check_series(list(ROW)), ROW)
        for wrong in WRONG:
            for refused in (lambda: check_series(wrong), lambda: form(wrong, "plain", 0), lambda: all_forms_of(wrong),
                            lambda: square(wrong), lambda: steps_in(wrong), lambda: has_all_steps(wrong),
                            lambda: which(wrong, ROW), lambda: fits_halves(wrong, "plain", 0),
                            lambda: all_fits(wrong), lambda: places_alike(wrong, "plain", 0),
                            lambda: same_order(wrong, ROW), lambda: same_order(ROW, wrong)):
                with self.assertRaises(BadSize):
                    refused()

    def test_forms(self):
        for row in some_rows():
            for kind in KINDS:
                for steps in range(-13, 25):
                    self.assertEqual(form(list(row), kind, steps), form_by_words(row, kind, steps))
        self.assertEqual(form(ROW, "turned", 0), (0, 1, 9, 8, 4, 5, 3, 7, 6, 11, 10, 2))
        self.assertEqual(form(ROW, "back turned", 1), (3, 11, 0, 7, 8, 4, 6, 5, 9, 10, 2, 1))

    def test_another_kind(self):
        for kind in ("", "Plain", "turned back", "moved"):
            for refused in (form, fits_halves, places_alike):
                with self.assertRaises(BadSize):
                    refused(ROW, kind, 0)

    def test_all_forms_each_once(self):
        for row in some_rows():
            wanted = []
            for kind in KINDS:
                for steps in range(12):
                    found = form_by_words(row, kind, steps)
                    if found not in [one for _, _, one in wanted]:
                        wanted.append((kind, steps, found))
            self.assertEqual(all_forms_of(row), tuple(wanted))
        self.assertEqual(len(all_forms_of(ROW)), 48)
        self.assertEqual(len(all_forms_of(PLAIN)), 24)

    def test_square(self):
        for row in some_rows():
            found = square(list(row))
            self.assertEqual(len(found), 12)
            self.assertEqual(found[0], row)
            self.assertEqual(tuple(line[0] for line in found), form_by_words(row, "turned", 0))
            for line in found:
                self.assertEqual(line, form_by_words(row, "plain", line[0] - row[0]))
            self.assertEqual([found[k][k] for k in range(12)], [row[0]] * 12)

    def test_steps(self):
        for row in some_rows():
            wanted = tuple((b - a) % 12 for a, b in zip(row, row[1:]))
            self.assertEqual(steps_in(row), wanted)
            self.assertIs(has_all_steps(row), set(wanted) == set(range(1, 12)))
            self.assertEqual(from_step_row(row[0], wanted), row)
            self.assertEqual(from_step_row(row[0], [step - 12 for step in wanted]), row)
        self.assertIs(has_all_steps(WHOLE), True)
        self.assertIs(has_all_steps(PLAIN), False)

    def test_from_step_row_refused(self):
        for start, steps in ((0, [1] * 10), (0, [1] * 12), (0, [2] * 11), (0, [1] * 10 + [12]), (0, []),
                             (12, [1] * 11), (-1, [1] * 11)):
            with self.assertRaises(BadSize):
                from_step_row(start, steps)

    def test_which(self):
        for row in some_rows():
            for kind in KINDS:
                for steps in range(12):
                    found = form_by_words(row, kind, steps)
                    wanted = [(one, by) for one in KINDS for by in range(12) if form_by_words(row, one, by) == found]
                    self.assertEqual(which(row, list(found)), wanted[0])
        self.assertIsNone(which(ROW, PLAIN))
        self.assertIsNone(which(ROW, ROW[:6]))
        self.assertIsNone(which(ROW, ()))

    def test_halves_that_fit(self):
        for row in some_rows():
            wanted = []
            for kind in KINDS:
                for steps in range(12):
                    fits = set(form_by_words(row, kind, steps)[:6]) == set(row[6:])
                    self.assertIs(fits_halves(row, kind, steps), fits)
                    if fits:
                        wanted.append((kind, steps))
            self.assertEqual(all_fits(row), tuple(wanted))
        self.assertIn(("plain", 6), all_fits(PLAIN))
        self.assertIn(("back", 0), all_fits(ROW))

    def test_places_alike(self):
        for row in some_rows():
            for kind in KINDS:
                for steps in range(12):
                    found = form_by_words(row, kind, steps)
                    self.assertEqual(places_alike(list(row), kind, steps),
                                     tuple(k for k in range(12) if found[k] == row[k]))

    def test_same_order(self):
        for one, other in itertools.product(some_rows()[::2], repeat=2):
            self.assertEqual(same_order(one, other), longest_in_order(one, other))
        self.assertEqual(same_order(PLAIN, PLAIN), PLAIN)
        self.assertEqual(same_order(PLAIN, PLAIN[::-1]), (0,))

    def test_what_is_handed_in_stays(self):
        row = list(ROW)
        form(row, "back turned", 3)
        all_forms_of(row)
        row.append(0)
        with self.assertRaises(BadSize):
            form(row, "back", 0)
        self.assertEqual(row, list(ROW) + [0])
