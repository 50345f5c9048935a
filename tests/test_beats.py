import itertools
import math
import unittest

from voicewright.beats import (against, all_rows, both_struck, choose, even, gaps, how_many_rounds, is_even, least_turn,
                               off, rounds, same_round, shared_by, strokes, turned_row)
from voicewright.errors import BadSize


def rows_of(struck, many):
    return [row for row in itertools.product((0, 1), repeat=many) if sum(row) == struck]


def turns(row):
    return [row[k:] + row[:k] for k in range(max(len(row), 1))]


def lies_even(row):
    places = [k for k, one in enumerate(row) if one]
    long = [(b - a) % len(row) or len(row) for a, b in zip(places, places[1:] + places[:1])]
    for many in range(1, len(long) + 1):
        sums = {sum((long * 2)[k:k + many]) for k in range(len(long))}
        if max(sums) - min(sums) > 1:
            return False
    return True


class Even(unittest.TestCase):
    def test_by_the_words(self):
        for many in range(1, 20):
            for struck in range(many + 1):
                row = even(struck, many)
                self.assertEqual(row, tuple(int((place * struck) % many < struck) for place in range(many)))
                self.assertEqual((sum(row), len(row)), (struck, many))
        self.assertEqual(even(3, 8), (1, 0, 0, 1, 0, 0, 1, 0))
        self.assertEqual(even(5, 8), (1, 0, 1, 0, 1, 1, 0, 1))
        self.assertEqual(even(0, 3), (0, 0, 0))
        self.assertEqual(even(3, 3), (1, 1, 1))

    def test_refused(self):
        for struck, many in ((4, 3), (-1, 3), (0, 0), (1, 0), (0, -1), (-1, -1)):
            with self.assertRaises(BadSize):
                even(struck, many)

    def test_the_only_even_ones_but_for_turns(self):
        for many in range(1, 10):
            for struck in range(many + 1):
                best = turns(even(struck, many))
                for row in rows_of(struck, many):
                    self.assertEqual(is_even(row), lies_even(row))
                    self.assertEqual(is_even(list(row)), row in best)

    def test_rows_without_strokes(self):
        self.assertTrue(is_even((0, 0)))
        self.assertTrue(is_even(()))
        self.assertTrue(is_even((0, 1, 0)))
        self.assertFalse(is_even((1, 1, 1, 0, 0, 0)))


class Rows(unittest.TestCase):
    def test_strokes_and_gaps(self):
        self.assertEqual(strokes([0, 1, 0, 1]), (1, 3))
        self.assertEqual(strokes(()), ())
        self.assertEqual(gaps((1, 0, 0, 1, 0, 0, 1, 0)), (3, 3, 2))
        self.assertEqual(gaps([0, 1, 0]), (3,))
        self.assertEqual(gaps((0, 0)), ())
        self.assertEqual(gaps((0, 1, 1)), (1, 2))
        for row in itertools.product((0, 1), repeat=7):
            places = strokes(row)
            self.assertEqual(places, tuple(k for k in range(7) if row[k]))
            for place, gap in zip(places, gaps(row)):
                self.assertEqual([k for k in range(1, 8) if row[(place + k) % 7]][0], gap)

    def test_turned_row(self):
        self.assertEqual(turned_row((1, 0, 0), 1), (0, 0, 1))
        self.assertEqual(turned_row([1, 0, 0], 2), (0, 1, 0))
        self.assertEqual(turned_row([1, 0, 0], 0), (1, 0, 0))
        self.assertEqual(turned_row((1, 0, 0), 4), (0, 0, 1))
        self.assertEqual(turned_row((1, 0, 0), -1), (0, 1, 0))
        self.assertEqual(turned_row((), 3), ())

    def test_same_round(self):
        self.assertEqual(same_round((1, 0, 0), [0, 1, 0]), 2)
        self.assertEqual(same_round((1, 0, 1, 0), (0, 1, 0, 1)), 1)
        self.assertEqual(same_round([1, 0, 1, 0], [1, 0, 1, 0]), 0)
        self.assertIsNone(same_round((1, 0, 0), (1, 1, 0)))
        self.assertIsNone(same_round((1, 0), (1, 0, 0)))
        self.assertEqual(same_round((), ()), 0)
        for one, other in itertools.product(itertools.product((0, 1), repeat=5), repeat=2):
            wanted = [by for by in range(5) if one[by:] + one[:by] == other]
            self.assertEqual(same_round(one, other), wanted[0] if wanted else None)

    def test_all_rows(self):
        for many in range(9):
            for struck in range(-1, many + 2):
                self.assertEqual(all_rows(struck, many), tuple(rows_of(struck, many)))
        self.assertEqual(all_rows(1, 3), ((0, 0, 1), (0, 1, 0), (1, 0, 0)))
        self.assertEqual(len(all_rows(6, 12)), 924)
        self.assertEqual(all_rows(12, 12), ((1,) * 12,))
        for struck in (0, 6, 13, 14):
            with self.assertRaises(BadSize):
                all_rows(struck, 13)

    def test_least_turn_and_rounds(self):
        self.assertEqual(least_turn([1, 0, 0]), (0, 0, 1))
        self.assertEqual(least_turn(()), ())
        for many in range(1, 9):
            for struck in range(many + 1):
                rows = rows_of(struck, many)
                for row in rows:
                    self.assertEqual(least_turn(row), min(turns(row)))
                wanted = sorted({min(turns(row)) for row in rows})
                self.assertEqual(rounds(struck, many), tuple(wanted))
                self.assertEqual(how_many_rounds(struck, many), len(wanted))
        self.assertEqual(how_many_rounds(6, 12), len(rounds(6, 12)))
        with self.assertRaises(BadSize):
            rounds(2, 13)

    def test_how_many_rounds(self):
        self.assertEqual(how_many_rounds(2, 1), 0)
        self.assertEqual(how_many_rounds(-1, 3), 0)
        self.assertEqual(how_many_rounds(6, 12), 80)
        self.assertEqual(how_many_rounds(1, 1000), 1)
        for many in (0, -1):
            with self.assertRaises(BadSize):
                how_many_rounds(0, many)


class Counts(unittest.TestCase):
    def test_shared_by(self):
        for one in range(13):
            for other in range(13):
                self.assertEqual(shared_by(one, other), math.gcd(one, other))

    def test_choose(self):
        for many in range(9):
            for few in range(9):
                self.assertEqual(choose(many, few), len(list(itertools.combinations(range(many), few))))
        self.assertEqual(choose(3, -1), 0)
        self.assertEqual(choose(-1, 0), 0)


class Two(unittest.TestCase):
    def test_both_struck(self):
        self.assertEqual(both_struck((1, 0), (1, 0, 0)), (0,))
        self.assertEqual(both_struck([1, 1], [0, 1, 1]), (1, 2, 4, 5))
        self.assertEqual(both_struck((1, 0, 1, 0), (0, 1)), ())
        for one, other in itertools.product([even(2, 3), (0, 1), even(3, 4), (1,), even(2, 6)], repeat=2):
            whole = math.lcm(len(one), len(other))
            wanted = [k for k in range(whole) if one[k % len(one)] and other[k % len(other)]]
            self.assertEqual(both_struck(one, other), tuple(wanted))
        for one, other in (((), (1,)), ((1,), ()), ((), ())):
            with self.assertRaises(BadSize):
                both_struck(one, other)

    def test_off(self):
        strong = (1, 0, 0, 0, 1, 0, 0, 0)
        self.assertEqual(off((1, 0, 0, 0, 1, 0, 0, 0), strong), 0)
        self.assertEqual(off((0, 0, 0, 1, 0, 0, 0, 0), strong), 1)
        self.assertEqual(off((0, 0, 0, 1, 1, 0, 0, 0), strong), 0)
        self.assertEqual(off([1, 0, 0, 1, 0, 0, 1, 0], strong), 1)
        self.assertEqual(off((0, 1, 1, 1, 0, 0, 0, 0), strong), 3)
        self.assertEqual(off((0, 0, 0, 0, 0, 0, 0, 1), strong), 1)
        self.assertEqual(off((1, 0, 0, 0, 0, 0, 0, 1), strong), 0)
        self.assertEqual(off((1, 1, 1), (0, 0, 0)), 0)
        self.assertEqual(off((1, 1, 1), ()), 0)

    def test_off_by_trying_all(self):
        for row, strong in itertools.product(itertools.product((0, 1), repeat=5), repeat=2):
            if any(strong):
                wanted = 0
                for place in range(5):
                    ahead = place + 1
                    while not strong[ahead % 5]:
                        ahead += 1
                    wanted += bool(row[place] and not strong[place] and not row[ahead % 5])
                self.assertEqual(off(row, strong), wanted)

    def test_against(self):
        self.assertEqual(against(3, 2), ((1, 0, 1, 0, 1, 0), (1, 0, 0, 1, 0, 0)))
        self.assertEqual(against(2, 4), ((1, 0, 1, 0), (1, 1, 1, 1)))
        self.assertEqual(against(1, 1), ((1,), (1,)))
        for one, other in itertools.product(range(1, 8), repeat=2):
            mine, theirs = against(one, other)
            self.assertEqual((len(mine), len(theirs)), (math.lcm(one, other),) * 2)
            self.assertEqual(set(gaps(mine)), {len(mine) // one})
            self.assertEqual(set(gaps(theirs)), {len(mine) // other})
            self.assertEqual(both_struck(mine, theirs)[0], 0)
        for one, other in ((0, 1), (1, 0), (-1, 2), (2, -1), (0, 0), (-1, -2)):
            with self.assertRaises(BadSize):
                against(one, other)

    def test_what_is_handed_in_stays(self):
        row, strong = [0, 1, 1], [1, 0, 0]
        off(row, strong), both_struck(row, strong), least_turn(row), turned_row(row, 1), same_round(row, strong)
        with self.assertRaises(BadSize):
            both_struck(row, [])
        self.assertEqual((row, strong), ([0, 1, 1], [1, 0, 0]))
