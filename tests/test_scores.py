import itertools
import random
import unittest

import oracle
from voicewright.errors import BadLine, BadSize
from voicewright.keys import Key
from voicewright.lines import Rules, best_line
from voicewright.scores import Score, best_move, fits_ranges, perfect_places, ranges

LINES = ((48, 50, 52, 53), (55, 57, 55, 60), (64, 62, 67, 72))
CLEAN = ((48, 50, 52, 50, 48), (57, 57, 55, 57, 57), (69, 65, 64, 65, 72))


def scores():
    dice = random.Random(22)
    rows = [(), ((),), ((), ()), LINES, CLEAN, ((60,), (60,)), ((60, 62), (67, 69)), ((60, 62), (60, 69))]
    for _ in range(60):
        many, long = dice.randrange(1, 4), dice.randrange(1, 5)
        rows.append(tuple(tuple(dice.randrange(55, 70) for _ in range(long)) for _ in range(many)))
    return rows


def told_where(lines, holds, short=0):
    """All (place, low, high) of which something holds by the notes of both lines from the place on."""
    long = len(lines[0]) if lines else 0
    return tuple((place, low, high) for place in range(long - short)
                 for low, high in itertools.combinations(range(len(lines)), 2)
                 if holds(lines[low][place:], lines[high][place:]))


def moved_how(low, low_next, high, high_next):
    one, other = oracle.way(low, low_next), oracle.way(high, high_next)
    if one == other == 0:
        return "still"
    if 0 in (one, other):
        return "one"
    if one != other:
        return "apart"
    return "alike" if low_next - low == high_next - high else "along"


class Scores(unittest.TestCase):
    def test_fields(self):
        made = Score([list(line) for line in LINES])
        self.assertIs(type(made.lines), list)
        self.assertEqual(made.lines, list(LINES))
        self.assertEqual(made.shown(), LINES)
        self.assertEqual(Score(()).lines, [])
        self.assertEqual(Score(()).shown(), ())

    def test_what_is_handed_in_is_copied(self):
        lines = [list(line) for line in LINES]
        made = Score(lines)
        lines[0].append(60)
        lines.pop()
        self.assertEqual(made.shown(), LINES)

    def test_unlike_lengths(self):
        for lines in (((60,), ()), ((), (60,)), ((60, 62), (60, 62), (60,))):
            with self.assertRaises(BadLine):
                Score(lines)

    def test_long_and_sound(self):
        self.assertEqual(Score(LINES).long(), 4)
        self.assertEqual(Score(()).long(), 0)
        self.assertEqual(Score(((), ())).long(), 0)
        self.assertEqual(Score(LINES).sound(2), (52, 55, 67))
        for place in (-1, 4, 100):
            with self.assertRaises(BadSize):
                Score(LINES).sound(place)
        for bare in ((), ((),)):
            with self.assertRaises(BadSize):
                Score(bare).sound(0)

    def test_pairs(self):
        self.assertEqual(Score(LINES).pairs(), [(0, 1), (0, 2), (1, 2)])
        self.assertEqual(Score(LINES[:1]).pairs(), [])
        self.assertEqual(Score(()).pairs(), [])

    def test_what_is_broken_by_trying_all(self):
        for lines in scores():
            made = Score(lines)
            rough = told_where(lines, lambda one, other: not oracle.together(one[0], other[0]))
            crossed = told_where(lines, lambda one, other: one[0] > other[0])
            alike = told_where(lines, lambda one, other: oracle.alike(one[0], one[1], other[0], other[1]), 1)
            fallen = told_where(lines, lambda one, other: oracle.falls(one[0], one[1], other[0], other[1]), 1)
            self.assertEqual((made.rough(), made.crossed(), made.alike(), made.fallen()),
                             (rough, crossed, alike, fallen))
            self.assertIs(made.is_clean(), (rough, crossed, alike, fallen) == ((), (), (), ()))

    def test_each_fault_is_told(self):
        self.assertEqual(Score(((60,), (61,))).rough(), ((0, 0, 1),))
        self.assertEqual(Score(((64,), (60,))).crossed(), ((0, 0, 1),))
        self.assertEqual(Score(((60, 62), (67, 69))).alike(), ((0, 0, 1),))
        self.assertEqual(Score(((60, 62), (63, 69))).fallen(), ((0, 0, 1),))
        self.assertEqual(Score(((60, 65), (67, 69))).fallen(), ())
        self.assertEqual(Score(((60, 60), (67, 67))).alike(), ())

    def test_motions(self):
        for lines in scores():
            for low, high in itertools.product(range(len(lines)), repeat=2):
                one, other = lines[low], lines[high]
                wanted = tuple(moved_how(one[k], one[k + 1], other[k], other[k + 1]) for k in range(len(one) - 1))
                self.assertEqual(Score(lines).motions(low, high), wanted)
        for low, high in ((-1, 0), (0, -1), (3, 0), (0, 3), (-1, -1)):
            with self.assertRaises(BadSize):
                Score(LINES).motions(low, high)
        with self.assertRaises(BadSize):
            Score(()).motions(0, 0)

    def test_clean_scores_stay_clean(self):
        self.assertIs(Score(CLEAN).is_clean(), True)
        cleans = [lines for lines in scores() if Score(lines).is_clean()]
        self.assertGreater(len(cleans), 5)
        for lines in cleans:
            for number in range(len(lines)):
                less = Score(lines).without(number)
                self.assertEqual(less.shown(), lines[:number] + lines[number + 1:])
                self.assertIs(less.is_clean(), True)
            for steps in (-12, -1, 0, 5):
                up = Score(lines).moved(steps)
                self.assertEqual(up.shown(), tuple(tuple(note + steps for note in line) for line in lines))
                self.assertIs(up.is_clean(), True)

    def test_with_line(self):
        made = Score(LINES[:2])
        more = made.with_line(list(LINES[2]))
        self.assertEqual(more.shown(), LINES)
        self.assertEqual(made.shown(), LINES[:2])
        self.assertEqual(Score(()).with_line((60,)).shown(), ((60,),))
        for line in ((), (60,), (60,) * 5):
            with self.assertRaises(BadLine):
                made.with_line(line)
        self.assertEqual(made.shown(), LINES[:2])

    def test_without_refused(self):
        made = Score(LINES)
        for number in (-1, 3, 9):
            with self.assertRaises(BadSize):
                made.without(number)
        with self.assertRaises(BadSize):
            Score(()).without(0)
        self.assertEqual(made.shown(), LINES)

    def test_perfect_places(self):
        for lines in scores():
            for low, high in itertools.product(range(len(lines)), repeat=2):
                wanted = tuple(k for k in range(len(lines[low])) if oracle.perfect(lines[low][k], lines[high][k]))
                self.assertEqual(perfect_places(Score(lines), low, high), wanted)

    def test_best_lines_make_clean_scores(self):
        rules = Rules(Key(0, "major").between(60, 79))
        for given in ((60, 62, 64, 62, 60), (60, 65, 64, 62, 64, 60), (57, 60, 59, 57), (60,), ()):
            made = Score([given]).with_line(best_line(given, rules))
            self.assertIs(made.is_clean(), True)
            self.assertEqual(made.long(), len(given))


class Ranges(unittest.TestCase):
    BOUNDS = [(48, 53), (55, 60), (62, 72)]

    def test_ranges(self):
        self.assertEqual(ranges(Score(LINES)), tuple(self.BOUNDS))
        self.assertEqual(ranges(Score(((60,),))), ((60, 60),))
        for bare in ((), ((),), ((), ())):
            with self.assertRaises(BadSize):
                ranges(Score(bare))

    def test_lines_that_leave_their_bounds(self):
        self.assertEqual(fits_ranges(Score(LINES), self.BOUNDS), ())
        self.assertEqual(fits_ranges(Score(LINES), [(49, 53), (55, 60), (62, 71)]), (0, 2))
        self.assertEqual(fits_ranges(Score(LINES), [(0, 52), (0, 0), (62, 72)]), (0, 1))
        self.assertEqual(fits_ranges(Score(()), []), ())
        self.assertEqual(fits_ranges(Score(((), ())), [(1, 0), (1, 0)]), ())
        for bounds in ([], self.BOUNDS[:2], self.BOUNDS + [(0, 120)]):
            with self.assertRaises(BadSize):
                fits_ranges(Score(LINES), bounds)

    def test_best_move_by_trying_all(self):
        dice = random.Random(4)
        told = []
        for lines in scores():
            if not lines or not lines[0]:
                continue
            for _ in range(6):
                slack = dice.randrange(8)
                off = dice.randrange(-26, 27)
                bounds = [(min(line) + off - slack, max(line) + off + slack) for line in lines]
                key = Key(dice.randrange(12), dice.choice(("major", "minor")))
                ways = [steps for steps in range(-24, 25)
                        if all(low <= note + steps <= high for line, (low, high) in zip(lines, bounds)
                               for note in line)
                        and all((line[0] + steps) % 12 in key.classes() for line in lines)]
                wanted = min(ways, key=lambda steps: (abs(steps), steps)) if ways else None
                self.assertEqual(best_move(Score(lines), bounds, key), wanted)
                told.append(wanted)
        self.assertIn(None, told)
        self.assertGreater(len({one for one in told if one is not None}), 10)

    def test_best_move_edges(self):
        key = Key(0, "major")
        self.assertEqual(best_move(Score(((61,),)), [(0, 120)], key), -1)
        self.assertEqual(best_move(Score(((60,),)), [(0, 120)], key), 0)
        self.assertEqual(best_move(Score(((60,),)), [(84, 120)], key), 24)
        self.assertEqual(best_move(Score(((60,),)), [(0, 36)], key), -24)
        self.assertIsNone(best_move(Score(((60,),)), [(85, 120)], key))
        self.assertIsNone(best_move(Score(((60,),)), [(61, 61)], key))

    def test_best_move_refused(self):
        key = Key(0, "major")
        for score, bounds in ((Score(()), []), (Score(((),)), [(0, 120)]), (Score(LINES), self.BOUNDS[:2]),
                              (Score(LINES), []), (Score(()), [(0, 1)])):
            with self.assertRaises(BadSize):
                best_move(score, bounds, key)
