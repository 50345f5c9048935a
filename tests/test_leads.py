import itertools
import unittest

from voicewright.errors import BadPaper, BadSize
from voicewright.leads import (check_rows, check_weights, cost_of, course, course_cost, crossing, least_steps, straight,
                               to_chord, weights)

ROWS = [(), (60,), (64, 60), (60, 60), (67, 60, 64), (60, 67, 60), (55, 72, 61, 64), (60, 60, 64, 64), (3, 1, 2, 0),
        (70, 58, 70, 66, 61)]


def steps(one, other):
    return sum(abs(a - b) for a, b in zip(one, other))


def same_lengths():
    return [(one, other) for one in ROWS for other in ROWS if len(one) == len(other)]


def near_rows():
    notes = range(60, 64)
    return [(one, other) for one in itertools.product(notes, repeat=3) for other in itertools.product(notes, repeat=3)]


class Rows(unittest.TestCase):
    def test_unlike_lengths_are_refused(self):
        self.assertIsNone(check_rows((60, 64), [67, 60]))
        self.assertIsNone(check_rows([], ()))
        for one, other in (((60,), (60, 64)), ((60, 64), (60,)), ((), (60,)), ((60,), ())):
            for refused in (check_rows, cost_of, straight, least_steps, crossing,
                            lambda a, b: check_weights(a, b, (a, b)), lambda a, b: course((a, b)),
                            lambda a, b: course_cost((a, b))):
                with self.assertRaises(BadSize):
                    refused(one, other)

    def test_cost_of(self):
        self.assertEqual(cost_of((60, 64, 67), (59, 65, 67)), 2)
        self.assertEqual(cost_of([60, 64], [64, 60]), 8)
        self.assertEqual(cost_of((), ()), 0)

    def test_straight(self):
        self.assertEqual(straight((67, 60, 64), (65, 69, 60)), (69, 60, 65))
        self.assertEqual(straight([60, 64, 67], [69, 65, 60]), (60, 65, 69))
        self.assertEqual(straight((60, 60, 60), (3, 2, 1)), (1, 2, 3))
        self.assertEqual(straight((64, 60, 64, 60), (5, 6, 7, 8)), (7, 5, 8, 6))
        self.assertEqual(straight((), ()), ())

    def test_straight_by_its_words(self):
        for one, other in same_lengths() + near_rows()[::7]:
            found = straight(one, other)
            self.assertEqual(sorted(found), sorted(other))
            for a, b in itertools.combinations(range(len(one)), 2):
                if one[a] <= one[b]:
                    self.assertLessEqual(found[a], found[b])
                else:
                    self.assertGreaterEqual(found[a], found[b])

    def test_fewest_by_trying_all(self):
        for one, other in same_lengths() + near_rows()[::7]:
            least = min(steps(one, way) for way in itertools.permutations(other))
            self.assertEqual(least_steps(one, other), least)
            self.assertEqual(cost_of(one, straight(one, other)), least)

    def test_crossing(self):
        self.assertEqual(crossing((60, 64, 67), (67, 64, 60)), ((0, 1), (0, 2), (1, 2)))
        self.assertEqual(crossing((67, 64, 60), (60, 64, 67)), ((1, 0), (2, 0), (2, 1)))
        self.assertEqual(crossing((60, 64), (64, 64)), ())
        self.assertEqual(crossing((60, 60), (64, 60)), ())
        self.assertEqual(crossing((60, 64, 62), (61, 60, 59)), ((0, 1), (0, 2)))
        for one, other in near_rows()[::5]:
            wanted = [(a, b) for a in range(3) for b in range(3) if one[a] < one[b] and other[a] > other[b]]
            self.assertEqual(crossing(one, other), tuple(wanted))
            self.assertEqual(crossing(one, straight(one, other)), ())


class Weights(unittest.TestCase):
    def test_weights_show_the_least(self):
        for one, other in same_lengths() + near_rows()[::3]:
            papers = weights(one, other)
            mine, theirs = papers
            self.assertEqual((type(papers), type(mine), type(theirs)), (tuple, tuple, tuple))
            self.assertEqual((len(mine), len(theirs)), (len(one), len(other)))
            for a, weight in zip(one, mine):
                for b, more in zip(other, theirs):
                    self.assertLessEqual(weight + more, abs(a - b))
            least = min(steps(one, way) for way in itertools.permutations(other))
            self.assertEqual(sum(mine) + sum(theirs), least)
            self.assertEqual(check_weights(one, other, papers), least)

    def test_lesser_weights_show_less(self):
        self.assertEqual(check_weights((60, 64), (62, 64), ((0, 0), (0, 0))), 0)
        self.assertEqual(check_weights([60, 64], [62, 64], [[1, 0], [1, 0]]), 2)
        self.assertEqual(check_weights((60,), (62,), ((-5,), (7,))), 2)
        self.assertEqual(check_weights((), (), ((), ())), 0)

    def test_too_heavy(self):
        for papers in (((3, 0), (0, 0)), ((0, 0), (0, 1)), ((2, 0), (1, 0)), ((0, 3), (0, 0)), ((0, 0), (3, -9))):
            with self.assertRaises(BadPaper):
                check_weights((60, 64), (62, 64), papers)

    def test_every_pair_counts(self):
        for one, other in near_rows()[::11]:
            mine, theirs = weights(one, other)
            for place in range(3):
                for papers in ((mine[:place] + (mine[place] + 1,) + mine[place + 1:], theirs),
                               (mine, theirs[:place] + (theirs[place] + 1,) + theirs[place + 1:])):
                    with self.assertRaises(BadPaper):
                        check_weights(one, other, papers)

    def test_another_count_of_weights(self):
        for papers in (((0,), (0, 0)), ((0, 0), (0,)), ((0, 0, 0), (0, 0)), ((0, 0), (0, 0, 9)), ((), ())):
            with self.assertRaises(BadPaper):
                check_weights((60, 64), (62, 64), papers)


class ToChord(unittest.TestCase):
    def by_all(self, notes, lot, low, high):
        rows = [row for row in itertools.product(range(low, high + 1), repeat=len(notes))
                if {note % 12 for note in row} == set(lot)]
        return min(rows, key=lambda row: (steps(notes, row), row), default=None)

    def test_by_trying_all(self):
        for notes in ((60, 64, 67), (67, 60, 62), (61, 61, 61), (55, 70, 63), (0, 120, 60)):
            for lot in ((0, 4, 7), (9, 0, 4), (0, 6), (2,), (7, 11, 2)):
                for low, high in ((58, 70), (60, 67), (59, 61)):
                    wanted = self.by_all(notes, lot, low, high)
                    if wanted is None:
                        with self.assertRaises(BadSize):
                            to_chord(notes, lot, low, high)
                    else:
                        self.assertEqual(to_chord(notes, lot, low, high), wanted)

    def test_the_lowest_of_as_near_ones(self):
        self.assertEqual(to_chord((62,), (0,), 48, 84), (60,))
        self.assertEqual(to_chord((66,), (0,), 48, 84), (60,))
        self.assertEqual(to_chord((62, 62), (0, 4), 60, 64), (60, 64))
        self.assertEqual(to_chord([66, 66], [0], 60, 72), (60, 60))

    def test_both_ends_are_in_the_range(self):
        self.assertEqual(to_chord((61, 63), (0, 4), 60, 64), (60, 64))
        for low, high in ((61, 64), (60, 63), (64, 60)):
            with self.assertRaises(BadSize):
                to_chord((61, 63), (0, 4), low, high)

    def test_no_room_for_all_classes(self):
        with self.assertRaises(BadSize):
            to_chord((60, 64), (0, 4, 7), 0, 120)
        with self.assertRaises(BadSize):
            to_chord((), (0, 4, 7), 0, 120)

    def test_more_notes_than_classes(self):
        self.assertEqual(to_chord((60, 64, 67, 72), (0, 4, 7), 48, 84), (60, 64, 67, 72))
        self.assertEqual(to_chord((60, 65, 69, 72), (0, 4, 7), 55, 79), (60, 64, 67, 72))

    def test_too_many(self):
        # From 0 to 106 are 27 notes of the chord, so 19683 rows of three; up to 108 there are 28, so 21952 rows.
        self.assertEqual(to_chord((60, 64, 67), (0, 4, 7), 0, 106), (60, 64, 67))
        with self.assertRaises(BadSize):
            to_chord((60, 64, 67), (0, 4, 7), 0, 108)
        with self.assertRaises(BadSize):
            to_chord((60, 64, 67, 72), (0, 4, 7), 0, 120)
        with self.assertRaises(BadSize):
            to_chord((60,) * 40, (0, 4, 7), 48, 72)


class Courses(unittest.TestCase):
    def test_course(self):
        rows = [[64, 60, 67], [69, 65, 60], [62, 67, 71]]
        self.assertEqual(course(rows), ((64, 60, 67), (65, 60, 69), (67, 62, 71)))
        self.assertEqual(rows, [[64, 60, 67], [69, 65, 60], [62, 67, 71]])
        self.assertEqual(course([]), ())
        self.assertEqual(course([[60, 50]]), ((60, 50),))

    def test_each_row_goes_on_from_the_one_ahead(self):
        self.assertEqual(course([(1, 2), (5, 5), (4, 3)]), ((1, 2), (5, 5), (3, 4)))
        self.assertEqual(course([(1, 2, 2), (3, 2, 4), (7, 8, 9), (1, 2, 3)]),
                         ((1, 2, 2), (2, 3, 4), (7, 8, 9), (1, 2, 3)))
        self.assertEqual(course([(2, 1, 2), (5, 4, 4), (1, 2, 3)]), ((2, 1, 2), (4, 4, 5), (1, 2, 3)))

    def test_course_goes_the_least(self):
        rows = ROWS[4:6] + [(61, 62, 60), (60, 60, 61)]
        found = course(rows)
        self.assertEqual([sorted(row) for row in found], [sorted(row) for row in rows])
        self.assertEqual(found[0], rows[0])
        self.assertEqual(course_cost(found), sum(least_steps(a, b) for a, b in zip(rows, rows[1:])))
        least = min(sum(steps(a, b) for a, b in zip((rows[0], *ways), ways))
                    for ways in itertools.product(*[list(itertools.permutations(row)) for row in rows[1:]]))
        self.assertEqual(course_cost(found), least)

    def test_course_cost_as_they_stand(self):
        self.assertEqual(course_cost([(60, 64), (64, 60), (64, 61)]), 9)
        self.assertEqual(course_cost([]), 0)
        self.assertEqual(course_cost([(60, 64)]), 0)
