import itertools
import unittest

from voicewright.errors import BadSize
from voicewright.sets import (all_forms, check_set, intervals, is_same_kind, least_form, lots, moved_set, others,
                              shared_moved, stays, turned_set, twins, within_kind)

ALL = [lot for many in range(13) for lot in itertools.combinations(range(12), many)]
SOME = ALL[::71] + [(), (0,), (11,), (0, 6), (0, 4, 8), (0, 3, 6, 9), tuple(range(12)), (0, 2, 4, 5, 7, 9, 11)]


def forms(lot):
    found = []
    for by in range(12):
        found.append(tuple(sorted((one + by) % 12 for one in lot)))
        found.append(tuple(sorted((by - one) % 12 for one in lot)))
    return found


def apart(lot):
    row = [min((a - b) % 12, (b - a) % 12) for a, b in itertools.combinations(lot, 2)]
    return tuple(row.count(steps) for steps in range(1, 7))


class Sets(unittest.TestCase):
    def test_check_set(self):
        self.assertEqual(check_set([7, 0, 4, 0, 7]), (0, 4, 7))
        self.assertEqual(check_set((11, 0)), (0, 11))
        self.assertEqual(check_set([]), ())

    def test_refused(self):
        for wrong in ((12,), (-1,), [0, 4, 12], [3, -7], (0, 100)):
            for refused in (lambda: check_set(wrong), lambda: moved_set(wrong, 1), lambda: turned_set(wrong, 1),
                            lambda: least_form(wrong), lambda: is_same_kind(wrong, (0,)),
                            lambda: is_same_kind((0,), wrong), lambda: all_forms(wrong), lambda: intervals(wrong),
                            lambda: others(wrong), lambda: shared_moved(wrong, 2), lambda: stays(wrong),
                            lambda: within_kind(wrong, (0,)), lambda: within_kind((0,), wrong),
                            lambda: within_kind((), wrong), lambda: twins(wrong, (0, 1)),
                            lambda: twins((0, 1), wrong)):
                with self.assertRaises(BadSize):
                    refused()

    def test_moved_and_turned(self):
        self.assertEqual(moved_set([0, 4, 7], 5), (0, 5, 9))
        self.assertEqual(moved_set([0, 4, 7], -1), (3, 6, 11))
        self.assertEqual(turned_set([0, 4, 7], 0), (0, 5, 8))
        self.assertEqual(turned_set([0, 4, 7], 7), (0, 3, 7))
        for lot in SOME:
            for by in range(-13, 26):
                self.assertEqual(moved_set(lot, by), tuple(sorted((one + by) % 12 for one in lot)))
                self.assertEqual(turned_set(lot, by), tuple(sorted((by - one) % 12 for one in lot)))

    def test_forms_by_trying_all(self):
        for lot in SOME:
            self.assertEqual(least_form(lot), min(forms(lot)))
            self.assertEqual(least_form(list(lot) * 2), min(forms(lot)))
            self.assertEqual(all_forms(lot[::-1]), tuple(sorted(set(forms(lot)))))
        self.assertEqual(least_form((2, 5, 9)), (0, 3, 7))
        self.assertEqual(all_forms(()), ((),))

    def test_one_kind_has_one_least_form(self):
        for lot in SOME:
            self.assertEqual({least_form(other) for other in forms(lot)}, {least_form(lot)})
        for one, other in itertools.product(SOME, repeat=2):
            self.assertIs(is_same_kind(one, other), tuple(other) in forms(one))

    def test_intervals(self):
        for lot in SOME:
            self.assertEqual(intervals(lot), apart(lot))
        self.assertEqual(intervals((0, 4, 7)), (0, 0, 1, 1, 1, 0))
        self.assertEqual(intervals((0, 0, 6)), (0, 0, 0, 0, 0, 1))
        self.assertEqual(intervals(()), (0, 0, 0, 0, 0, 0))

    def test_others(self):
        for lot in SOME:
            self.assertEqual(others(lot), tuple(sorted(set(range(12)) - set(lot))))

    def test_shared_moved(self):
        for lot in SOME:
            for by in range(-12, 13):
                self.assertEqual(shared_moved(lot, by), len(set(lot) & {(one + by) % 12 for one in lot}))

    def test_stays(self):
        for lot in SOME:
            moved = tuple(by for by in range(12) if tuple(sorted((one + by) % 12 for one in lot)) == lot)
            turned = tuple(by for by in range(12) if tuple(sorted((by - one) % 12 for one in lot)) == lot)
            self.assertEqual(stays(lot), (moved, turned))
        self.assertEqual(stays([0, 4, 8]), ((0, 4, 8), (0, 4, 8)))
        self.assertEqual(stays(()), (tuple(range(12)), tuple(range(12))))

    def test_lots(self):
        for many in range(13):
            wanted = sorted({min(forms(lot)) for lot in itertools.combinations(range(12), many)})
            self.assertEqual(lots(many), tuple(wanted))
        self.assertEqual([len(lots(many)) for many in range(13)], [1, 1, 6, 12, 29, 38, 50, 38, 29, 12, 6, 1, 1])
        for many in (-1, 13, 100):
            with self.assertRaises(BadSize):
                lots(many)

    def test_within_kind(self):
        for one, other in itertools.product(SOME, repeat=2):
            self.assertIs(within_kind(one, other), any(set(lot) <= set(other) for lot in forms(one)))
        self.assertIs(within_kind((), ()), True)

    def test_twins(self):
        for one, other in itertools.product(SOME, repeat=2):
            self.assertIs(twins(one, other), apart(one) == apart(other) and tuple(other) not in forms(one))
        self.assertIs(twins((0, 1, 4, 6), (0, 1, 3, 7)), True)
        self.assertIs(twins((0, 1, 4, 6), (1, 2, 5, 7)), False)
        self.assertIs(twins((), ()), False)

    def test_what_is_handed_in_stays(self):
        row = [7, 0, 4, 0, 13]
        for refused in (check_set, least_form, all_forms, intervals):
            with self.assertRaises(BadSize):
                refused(row)
        self.assertEqual(row, [7, 0, 4, 0, 13])
