import itertools
import random
import unittest
from fractions import Fraction

from voicewright.errors import BadPaper, BadSize, BadTime
from voicewright.grids import (check_grid, heights_on, moved_by, nearest, off_by, on_grid, smallest, swung, unswung)

TIMES = [(0, 1), (1, 8), (1, 4), (3, 8), (1, 2), (5, 8), (1, 1), (7, 5), (2, 1), (9, 4)]
STEPS = [(1, 4), (1, 1), (2, 3), (3, 2)]


def part(worth):
    return (worth.numerator, worth.denominator)


def cost(rows, step, numbers):
    return sum((abs(Fraction(*time) - number * Fraction(*step)) for time, number in zip(rows, numbers)), Fraction(0))


def rising(many, most):
    return itertools.combinations(range(most + 1), many)


def some_rows():
    dice = random.Random(21)
    rows = [[], [(0, 1)], [(1, 2)], [(1, 8), (1, 8)], [(1, 1), (0, 1)], [(7, 2), (1, 1), (1, 1)]]
    for many in range(1, 5):
        for _ in range(6):
            rows.append(sorted([part(Fraction(dice.randrange(24), dice.choice((3, 4, 8)))) for _ in range(many)],
                               key=lambda time: Fraction(*time)))
    return rows


class Nearest(unittest.TestCase):
    def test_by_trying_all(self):
        for time, step in itertools.product(TIMES, STEPS):
            wanted = min(range(20), key=lambda number: (abs(Fraction(*time) - number * Fraction(*step)), number))
            self.assertEqual(nearest(time, step), wanted)

    def test_edges(self):
        self.assertEqual(nearest((1, 8), (1, 4)), 0)
        self.assertEqual(nearest((3, 8), (1, 4)), 1)
        self.assertEqual(nearest((13, 100), (1, 4)), 1)
        self.assertEqual(nearest((0, 1), (1, 4)), 0)

    def test_refused(self):
        for time, step in (((-1, 100), (1, 4)), ((1, 2), (0, 1)), ((1, 2), (-1, 4)), ((1, 2), (1, 0))):
            with self.assertRaises(BadTime):
                nearest(time, step)

    def test_off_by(self):
        for time, step, number in itertools.product(TIMES, STEPS, range(-2, 6)):
            self.assertEqual(off_by(time, step, number), part(abs(Fraction(*time) - number * Fraction(*step))))

    def test_smallest(self):
        self.assertEqual(smallest([(1, 2), (1, 3), (2, 5)]), (1, 3))
        self.assertEqual(smallest(((0, 1),)), (0, 1))


class OnGrid(unittest.TestCase):
    def test_by_trying_all(self):
        for rows, step, most in itertools.product(some_rows(), STEPS[:3], (0, 3, 7)):
            ways = list(rising(len(rows), most))
            if not ways:
                with self.assertRaises(BadSize):
                    on_grid(rows, step, most)
                continue
            wanted = min(ways, key=lambda way: (cost(rows, step, way), way[::-1]))
            self.assertEqual(on_grid(rows, step, most), wanted)
            self.assertEqual(moved_by(rows, step, wanted), part(cost(rows, step, wanted)))
            table = heights_on(rows, step, most)
            self.assertEqual(check_grid(rows, step, most, wanted, table), part(cost(rows, step, wanted)))
            self.assertEqual(check_grid(tuple(rows), step, most, list(wanted), list(table)),
                             part(cost(rows, step, wanted)))

    def test_heights_by_trying_all(self):
        for rows, step in itertools.product(some_rows(), STEPS[:2]):
            table = heights_on(rows, step, 6)
            self.assertIs(type(table), tuple)
            for long in range(1, len(rows) + 1):
                wanted = {}
                for way in rising(long, 6):
                    worth = cost(rows, step, way)
                    wanted[way[-1]] = min(worth, wanted.get(way[-1], worth))
                self.assertEqual(table[long - 1], {number: part(worth) for number, worth in wanted.items()})

    def test_no_times(self):
        self.assertEqual(on_grid([], (1, 4), 3), ())
        self.assertEqual(on_grid((), (1, 4), -1), ())
        self.assertEqual(heights_on([], (1, 4), 3), ())
        self.assertEqual(moved_by([], (1, 4), ()), (0, 1))
        self.assertEqual(check_grid([], (1, 4), 3, (), ()), (0, 1))
        with self.assertRaises(BadPaper):
            check_grid([], (1, 4), 3, (), ({},))

    def test_as_near_places_are_the_lowest(self):
        self.assertEqual(on_grid([(1, 8)], (1, 4), 5), (0,))
        self.assertEqual(on_grid([(1, 4), (1, 4)], (1, 4), 5), (0, 1))
        self.assertEqual(on_grid([(1, 1), (0, 1)], (1, 1), 5), (0, 1))

    def test_no_room(self):
        for rows, most in (([(0, 1)], -1), ([(0, 1), (1, 1)], 0), (TIMES, 8)):
            with self.assertRaises(BadSize):
                on_grid(rows, (1, 4), most)
        self.assertEqual(on_grid(TIMES, (1, 4), 9), tuple(range(10)))

    def test_bad_steps(self):
        for step in ((0, 1), (-1, 2), (1, 0)):
            for rows in ([], [(0, 1)]):
                with self.assertRaises(BadTime):
                    on_grid(rows, step, 5)

    def test_moved_by_refused(self):
        for numbers in ((), (0,), (0, 1, 2), (1, 1), (2, 1)):
            with self.assertRaises(BadSize):
                moved_by([(0, 1), (1, 4)], (1, 4), numbers)
        self.assertEqual(moved_by([(0, 1), (1, 4)], (1, 4), (-1, 9)), (9, 4))


class Papers(unittest.TestCase):
    ROWS = [(1, 8), (1, 4), (3, 8)]

    def table(self):
        return [dict(here) for here in heights_on(self.ROWS, (1, 4), 4)]

    def test_places_that_are_not_least(self):
        best = on_grid(self.ROWS, (1, 4), 4)
        least = cost(self.ROWS, (1, 4), best)
        for way in rising(3, 4):
            if cost(self.ROWS, (1, 4), way) == least:
                self.assertEqual(check_grid(self.ROWS, (1, 4), 4, way, self.table()), part(least))
            else:
                with self.assertRaises(BadPaper):
                    check_grid(self.ROWS, (1, 4), 4, way, self.table())

    def test_too_high_or_left_out(self):
        best = on_grid(self.ROWS, (1, 4), 4)
        for place, here in enumerate(self.table()):
            for number in here:
                table = self.table()
                table[place][number] = part(Fraction(*table[place][number]) + Fraction(1, 100))
                with self.assertRaises(BadPaper):
                    check_grid(self.ROWS, (1, 4), 4, best, table)
                del table[place][number]
                with self.assertRaises(BadPaper):
                    check_grid(self.ROWS, (1, 4), 4, best, table)

    def test_lower_heights_show_less(self):
        table = [{number: (0, 1) for number in range(5)} for _ in self.ROWS]
        with self.assertRaises(BadPaper):
            check_grid(self.ROWS, (1, 4), 4, on_grid(self.ROWS, (1, 4), 4), table)

    def test_the_length_is_looked_at_first(self):
        for table in (self.table()[:2], self.table() + [{}], []):
            for numbers in ((0, 1, 2), (0, 0, 0), (0,), ()):
                with self.assertRaises(BadPaper):
                    check_grid(self.ROWS, (1, 4), 4, numbers, table)

    def test_places_out_of_bounds(self):
        for numbers in ((0, 1, 5), (-1, 0, 1), (5, 5, 5)):
            with self.assertRaises(BadPaper):
                check_grid(self.ROWS, (1, 4), 4, numbers, self.table())
        with self.assertRaises(BadPaper):
            check_grid([(0, 1)], (1, 4), -1, (-1,), ({-1: (1, 4)},))

    def test_places_that_do_not_rise(self):
        for numbers in ((0, 1, 1), (2, 1, 0), (0, 1), (0, 1, 2, 3), ()):
            with self.assertRaises(BadSize):
                check_grid(self.ROWS, (1, 4), 4, numbers, self.table())
        high = self.table()
        high[0][0] = (9, 1)
        with self.assertRaises(BadPaper):
            check_grid(self.ROWS, (1, 4), 4, (1, 1, 1), high)

    def test_nothing_is_changed(self):
        rows, numbers, table = list(self.ROWS), [0, 1, 1], self.table()
        with self.assertRaises(BadSize):
            check_grid(rows, (1, 4), 4, numbers, table)
        self.assertEqual((rows, numbers, table), (self.ROWS, [0, 1, 1], self.table()))


class Swing(unittest.TestCase):
    def test_even_and_odd_places(self):
        for step in STEPS:
            for share in ((1, 2), (2, 3), (3, 4), (5, 8)):
                for number in range(9):
                    wanted = (number - number % 2) * Fraction(*step)
                    if number % 2:
                        wanted += 2 * Fraction(*step) * Fraction(*share)
                    self.assertEqual(swung(number, step, share), part(wanted))
                    self.assertEqual(unswung(swung(number, step, share), step, share), number)
        self.assertEqual(swung(3, (1, 4), (2, 3)), (5, 6))
        self.assertEqual(swung(4, (1, 4), (2, 3)), (1, 1))

    def test_what_is_none(self):
        for time, share in (((1, 4), (2, 3)), ((1, 3), (1, 2)), ((3, 4), (2, 3)), ((1, 100), (2, 3)), ((1, 6), (2, 3))):
            self.assertIsNone(unswung(time, (1, 4), share))
        self.assertEqual(unswung((1, 3), (1, 4), (2, 3)), 1)
        self.assertEqual(unswung((2, 4), (1, 4), (2, 3)), 2)
        self.assertEqual(unswung((2, 6), (1, 4), (4, 6)), 1)

    def test_by_trying_all(self):
        for time in [part(Fraction(k, 12)) for k in range(40)]:
            ways = [number for number in range(20) if swung(number, (1, 4), (2, 3)) == time]
            self.assertEqual(unswung(time, (1, 4), (2, 3)), ways[0] if ways else None)

    def test_refused(self):
        for step in ((0, 1), (-1, 4), (1, 0)):
            with self.assertRaises(BadTime):
                swung(1, step, (2, 3))
            with self.assertRaises(BadTime):
                unswung((1, 4), step, (2, 3))
