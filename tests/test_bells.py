import itertools
import math
import random
import unittest

from voicewright.bells import (all_changes, all_rung, back_to_rounds, check_change, check_extent, factorial, falls,
                               is_true, path_of, plain_changes, rounds_of, rung, twice)
from voicewright.errors import BadPaper, BadSize

WRONG = [(4, (3,)), (4, (-1,)), (4, (0, 1)), (4, (1, 1)), (4, (2, 1)), (1, (0,)), (4, (0, 4)), (5, (0, 2, 3))]


def changed(row, change):
    row = list(row)
    for place in change:
        row[place:place + 2] = row[place:place + 2][::-1]
    return tuple(row)


def apart_sets(many):
    places = range(max(many - 1, 0))
    return sorted(lot for size in range(many + 1) for lot in itertools.combinations(places, size)
                  if all(b - a > 1 for a, b in zip(lot, lot[1:])))


class Rows(unittest.TestCase):
    def test_rounds(self):
        for many in range(1, 8):
            self.assertEqual(rounds_of(many), tuple(range(many)))
        for many in (0, 8, -1):
            for refused in (rounds_of, plain_changes, lambda bells: is_true(bells, []),
                            lambda bells: check_extent(bells, []), lambda bells: back_to_rounds(bells, [])):
                with self.assertRaises(BadSize):
                    refused(many)

    def test_check_change(self):
        self.assertEqual(check_change([2, 0], 4), (0, 2))
        self.assertEqual(check_change((), 1), ())
        for many in range(1, 7):
            for size in range(4):
                for change in itertools.product(range(-1, many + 1), repeat=size):
                    if tuple(sorted(change)) in apart_sets(many):
                        self.assertEqual(check_change(change, many), tuple(sorted(change)))
                    else:
                        with self.assertRaises(BadSize):
                            check_change(change, many)

    def test_changes_that_can_not_be(self):
        for many, change in WRONG:
            row = list(range(many))
            for refused in (lambda: check_change(change, many), lambda: rung(row, change),
                            lambda: all_rung(row, [(), change]), lambda: is_true(many, [change]),
                            lambda: check_extent(many, [change]), lambda: back_to_rounds(many, [(), change])):
                with self.assertRaises(BadSize):
                    refused()
            self.assertEqual(row, list(range(many)))

    def test_rung(self):
        for many in range(1, 6):
            for row in itertools.permutations(range(many)):
                for change in apart_sets(many):
                    self.assertEqual(rung(row, change), changed(row, change))
                    self.assertEqual(rung(list(row), list(change)[::-1]), changed(row, change))
        self.assertEqual(rung((3, 1, 0, 2), (0, 2)), (1, 3, 2, 0))

    def test_all_rung(self):
        self.assertEqual(all_rung([0, 1, 2], [(0,), [1], ()]), ((0, 1, 2), (1, 0, 2), (1, 2, 0), (1, 2, 0)))
        self.assertEqual(all_rung((2, 1), ()), ((2, 1),))

    def test_all_changes(self):
        for many in range(1, 8):
            self.assertEqual(all_changes(many), tuple(apart_sets(many)))
        self.assertEqual(all_changes(4), ((), (0,), (0, 2), (1,), (2,)))
        self.assertEqual(all_changes(1), ((),))


class Touches(unittest.TestCase):
    def test_twice(self):
        dice = random.Random(26)
        for _ in range(200):
            rows = [tuple(dice.sample(range(3), 3)) for _ in range(dice.randrange(6))]
            ways = [(later, earlier) for later in range(len(rows)) for earlier in range(later)
                    if rows[earlier] == rows[later]]
            self.assertEqual(twice(rows), min(ways)[::-1] if ways else None)
        self.assertEqual(twice([[0, 1], [1, 0], [0, 1]]), (0, 2))
        self.assertIsNone(twice(()))

    def test_true_touches(self):
        swap, other = (0,), (1,)
        for changes, wanted in (((), True), ((swap,), True), ((swap, swap), True), ((swap, swap, swap), False),
                                ((swap, other) * 3, True), ((swap, other) * 2, True), (((),), True),
                                (((), swap), False), ((swap, ()), False), ((swap, other) * 3 + (swap,), False),
                                ((other, swap, swap), False)):
            self.assertIs(is_true(3, changes), wanted)
        self.assertIs(is_true(1, [()]), True)
        self.assertIs(is_true(1, [(), ()]), False)

    def test_true_by_trying_all(self):
        for many in (2, 3):
            for size in range(6):
                for changes in itertools.product(all_changes(many), repeat=size):
                    rows = all_rung(rounds_of(many), changes)
                    ahead = rows[:-1] if len(rows) > 1 else rows
                    again = len(rows) > 1 and rows[-1] in rows[1:-1]
                    self.assertIs(is_true(many, changes), len(set(ahead)) == len(ahead) and not again)

    def test_back_to_rounds(self):
        for many in range(1, 5):
            for lead in itertools.product(all_changes(many), repeat=2):
                row, often = rounds_of(many), 0
                while often == 0 or row != rounds_of(many):
                    row, often = all_rung(row, lead)[-1], often + 1
                self.assertEqual(back_to_rounds(many, lead), often)
        self.assertEqual(back_to_rounds(6, [(0, 2, 4), (1, 3)]), 6)
        self.assertEqual(back_to_rounds(3, ()), 1)

    def test_falls(self):
        for many in range(6):
            for row in itertools.permutations(range(many)):
                wanted = sum(a > b for a, b in itertools.combinations(row, 2))
                self.assertEqual(falls(row), wanted)
        self.assertEqual(falls([2, 1, 0]), 3)

    def test_paths(self):
        rows = all_rung((0, 1, 2), [(0,), (1,), (0,)])
        self.assertEqual(path_of(rows, 0), (0, 1, 2, 2))
        self.assertEqual(path_of([[2, 1], [1, 2]], 2), (0, 1))
        self.assertEqual(path_of((), 5), ())
        for bell in (3, -1):
            with self.assertRaises(BadSize):
                path_of(rows, bell)
        with self.assertRaises(BadSize):
            path_of([(0, 1), (0, 2)], 1)


class Extents(unittest.TestCase):
    def test_plain_changes_ring_all_rows_once(self):
        for many in range(1, 8):
            changes = plain_changes(many)
            self.assertTrue(all(len(change) == 1 for change in changes))
            rows = all_rung(rounds_of(many), changes)
            self.assertEqual(len(rows), math.factorial(many))
            self.assertEqual(len(set(rows)), len(rows))
            self.assertEqual(check_extent(many, changes), math.factorial(many))
            self.assertIs(is_true(many, changes), True)

    def test_the_last_bell_hunts_through(self):
        self.assertEqual(plain_changes(1), ())
        self.assertEqual(plain_changes(2), ((0,),))
        self.assertEqual(plain_changes(3), ((1,), (0,), (1,), (0,), (1,)))
        self.assertEqual(plain_changes(4)[:9], ((2,), (1,), (0,), (2,), (0,), (1,), (2,), (0,), (2,)))
        for many in range(2, 7):
            rows = all_rung(rounds_of(many), plain_changes(many))
            path = path_of(rows, many - 1)
            hunt = list(range(many - 1, -1, -1))
            self.assertEqual(path, tuple((hunt + hunt[::-1]) * (len(rows) // len(hunt)))[:len(rows)])
            rest = [tuple(bell for bell in row if bell != many - 1) for row in rows[::many]]
            self.assertEqual(tuple(rest), all_rung(rounds_of(many - 1), plain_changes(many - 1)))

    def test_factorial(self):
        for many in range(10):
            self.assertEqual(factorial(many), math.factorial(many))

    def test_what_is_no_extent(self):
        changes = plain_changes(4)
        for wrong in (changes[:-1], changes + ((0,),), changes + ((),), (), changes[1:], ((0,),) * 23):
            with self.assertRaises(BadPaper):
                check_extent(4, wrong)
        with self.assertRaises(BadPaper):
            check_extent(1, [()])
        self.assertEqual(check_extent(1, ()), 1)
