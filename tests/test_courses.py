import itertools
import random
import unittest

from voicewright.chords import chord
from voicewright.courses import (Style, best_course, best_courses, check_course, check_under, course_of, fitting,
                                 heights_under, told_course)
from voicewright.errors import BadPaper, BadSize, NoLine, NoSuch

CHORDS = [(0, "major"), (5, "major"), (7, "major"), (9, "minor")]
COSTS = [0, 1, 1, 2]
MOVES = [(0, 1, 1), (1, 2, 1), (2, 0, 0), (0, 0, 2), (2, 1, 5), (3, 1, 1)]


def style():
    return Style(CHORDS, COSTS, MOVES)


def cost_by_words(made, numbers):
    whole = sum(made.costs[number] for number in numbers)
    for pair in zip(numbers, numbers[1:]):
        whole += made.moves[pair] if pair in made.moves else 0 if pair[0] == pair[1] else made.other
    return whole


def all_courses(made, tune):
    lots = [{note % 12 for note in chord(root, kind)} for root, kind in made.chords]
    return [(cost_by_words(made, numbers), numbers)
            for numbers in itertools.product(range(len(lots)), repeat=len(tune))
            if all(note % 12 in lots[number] for number, note in zip(numbers, tune))]


def tunes():
    notes = (60, 62, 64, 65, 67, 69, 71)
    return [tune for many in range(5) for tune in itertools.product(notes, repeat=many)][::9] + [(60, 65, 67, 71, 60)]


def styles():
    dice = random.Random(5)
    made = [style(), Style(CHORDS, [0] * 4, [], 0), Style(CHORDS, [1, 1, 1, 1], [], 1), Style(CHORDS, COSTS, MOVES, 1)]
    for _ in range(6):
        rows = [(a, b, dice.randrange(4)) for a in range(4) for b in range(4) if dice.random() < 0.5]
        made.append(Style(CHORDS, [dice.randrange(3) for _ in CHORDS], rows, dice.randrange(4)))
    return made


class Styles(unittest.TestCase):
    def test_fields(self):
        made = Style(tuple(CHORDS), tuple(COSTS), tuple(MOVES))
        self.assertEqual((made.chords, made.costs), (CHORDS, COSTS))
        self.assertEqual(made.moves, {(0, 1): 1, (1, 2): 1, (2, 0): 0, (0, 0): 2, (2, 1): 5, (3, 1): 1})
        self.assertEqual(made.other, 3)
        self.assertEqual(Style(CHORDS, COSTS, MOVES, 7).other, 7)
        self.assertEqual(Style(CHORDS, COSTS, MOVES, other=0).other, 0)

    def test_what_is_handed_in_is_copied(self):
        chords, costs = list(CHORDS), list(COSTS)
        made = Style(chords, costs, MOVES)
        chords.pop()
        costs[0] = 9
        self.assertEqual((made.chords, made.costs), (CHORDS, COSTS))

    def test_refused(self):
        for costs in ([], [0, 1, 1], [0, 1, 1, 2, 0], [0, 1, -1, 2]):
            with self.assertRaises(BadSize):
                Style(CHORDS, costs, MOVES)
        with self.assertRaises(BadSize):
            Style(CHORDS, COSTS, MOVES + [(3, 3, -1)])
        with self.assertRaises(BadSize):
            Style(CHORDS, COSTS, MOVES, -1)
        with self.assertRaises(BadSize):
            Style([], [], [], -1)
        self.assertEqual(Style([], [], []).chords, [])

    def test_fits(self):
        made = style()
        for number, (root, kind) in enumerate(CHORDS):
            for note in range(48, 73):
                self.assertEqual(made.fits(number, note), note % 12 in chord(root, kind))
        with self.assertRaises(NoSuch):
            Style([(0, "none")], [0], []).fits(0, 60)

    def test_cost_and_move(self):
        made = style()
        self.assertEqual([made.cost(number) for number in range(4)], COSTS)
        self.assertEqual(made.move(0, 1), 1)
        self.assertEqual(made.move(1, 0), 3)
        self.assertEqual(made.move(2, 0), 0)
        self.assertEqual(made.move(0, 0), 2)
        self.assertEqual(made.move(1, 1), 0)
        self.assertEqual(Style(CHORDS, COSTS, [], 5).move(3, 2), 5)

    def test_fitting(self):
        self.assertEqual(fitting(style(), 60), [0, 1, 3])
        self.assertEqual(fitting(style(), 62), [2])
        self.assertEqual(fitting(style(), 61), [])


class Courses(unittest.TestCase):
    def test_best_by_trying_all(self):
        for made in styles():
            for tune in tunes()[::3]:
                ways = all_courses(made, tune)
                least = min(cost for cost, _ in ways)
                wanted = min((numbers for cost, numbers in ways if cost == least), key=lambda row: row[::-1])
                self.assertEqual(best_course(made, tune), wanted)
                self.assertEqual(course_of(made, tune, wanted), least)
                table = heights_under(made, tune)
                self.assertEqual(check_under(made, tune, table), least)
                self.assertEqual(check_course(made, tune, wanted, table), least)

    def test_next_best_by_trying_all(self):
        for made in styles():
            for tune in tunes()[::7]:
                ways = sorted(all_courses(made, tune))
                for many in (1, 2, 3, 10, 10 ** 6):
                    self.assertEqual(best_courses(made, tune, many), tuple(ways[:many]))

    def test_no_notes(self):
        self.assertEqual(best_course(style(), ()), ())
        self.assertEqual(best_courses(style(), (), 3), ((0, ()),))
        self.assertEqual(heights_under(style(), ()), ())
        self.assertEqual(check_under(style(), (), ()), 0)
        self.assertEqual(check_course(style(), (), (), ()), 0)
        self.assertEqual(course_of(style(), (), ()), 0)

    def test_none_asked_for(self):
        self.assertEqual(best_courses(style(), (60,), 0), ())
        self.assertEqual(best_courses(style(), (60,), -1), ())
        self.assertEqual(best_courses(style(), (60, 60), -2), ())

    def test_a_note_that_no_chord_has(self):
        for tune in ((61,), (60, 61), (61, 60), (60, 61, 60)):
            with self.assertRaises(NoLine):
                best_course(style(), tune)
            self.assertEqual(best_courses(style(), tune, 2), ())
        with self.assertRaises(NoLine):
            best_course(Style([], [], []), (60,))

    def test_heights_by_trying_all(self):
        for made in styles():
            for tune in tunes()[::11]:
                table = heights_under(made, tune)
                self.assertIs(type(table), tuple)
                for long in range(1, len(tune) + 1):
                    wanted = {}
                    for cost, numbers in all_courses(made, tune[:long]):
                        wanted[numbers[-1]] = min(cost, wanted.get(numbers[-1], cost))
                    self.assertEqual(table[long - 1], wanted)

    def test_course_of(self):
        made = style()
        self.assertEqual(course_of(made, (60, 65, 67, 60), (0, 1, 2, 0)), 0 + 1 + 1 + 1 + 1 + 0 + 0)
        self.assertEqual(course_of(made, [60, 60], [0, 0]), 2)
        self.assertEqual(course_of(made, [60, 60], [1, 3]), 6)
        for numbers in ((0, 1, 2), (0, 1, 2, 0, 0), (), (0, 0, 2, 0), (1, 1, 2, 2), (0, 1, 2, 4), (0, 1, -2, 0),
                        (-1, 1, 2, 0)):
            with self.assertRaises(BadSize):
                course_of(made, (60, 65, 67, 60), numbers)

    def test_no_such_kind(self):
        made = Style([(0, "major"), (0, "none")], [0, 0], [])
        for refused in (lambda: fitting(made, 60), lambda: heights_under(made, (60,)), lambda: best_course(made, (60,)),
                        lambda: course_of(made, (60,), (1,)), lambda: best_courses(made, (60,), 1),
                        lambda: check_under(made, (60,), ({0: 0},)),
                        lambda: check_course(made, (60,), (0,), ({0: 0},))):
            with self.assertRaises(NoSuch):
                refused()

    def test_told_course(self):
        self.assertEqual(told_course(style(), [0, 3, 2]), ((0, "major"), (9, "minor"), (7, "major")))
        self.assertEqual(told_course(style(), ()), ())


class Papers(unittest.TestCase):
    TUNE = (60, 65, 67, 64, 60)

    def test_lower_heights_show_less(self):
        made = style()
        table = [{number: 0 for number in range(4)} for _ in self.TUNE]
        self.assertEqual(check_under(made, self.TUNE, table), 0)
        with self.assertRaises(BadPaper):
            check_course(made, self.TUNE, best_course(made, self.TUNE), table)

    def test_too_high_or_left_out(self):
        made = style()
        for place in range(len(self.TUNE)):
            for number in heights_under(made, self.TUNE)[place]:
                table = [dict(here) for here in heights_under(made, self.TUNE)]
                table[place][number] += 1
                with self.assertRaises(BadPaper):
                    check_under(made, self.TUNE, table)
                del table[place][number]
                with self.assertRaises(BadPaper):
                    check_under(made, self.TUNE, table)
                with self.assertRaises(BadPaper):
                    check_course(made, self.TUNE, best_course(made, self.TUNE), table)

    def test_another_length(self):
        made = style()
        table = heights_under(made, self.TUNE)
        for wrong in (table[:-1], table + (table[-1],), ()):
            with self.assertRaises(BadPaper):
                check_under(made, self.TUNE, wrong)
            with self.assertRaises(BadPaper):
                check_course(made, self.TUNE, best_course(made, self.TUNE), wrong)
        with self.assertRaises(BadPaper):
            check_under(made, (), ({},))

    def test_a_course_that_costs_more(self):
        made = style()
        table = heights_under(made, self.TUNE)
        least = min(all_courses(made, self.TUNE))[0]
        for cost, numbers in all_courses(made, self.TUNE):
            if cost == least:
                self.assertEqual(check_course(made, self.TUNE, numbers, table), least)
            else:
                with self.assertRaises(BadPaper):
                    check_course(made, self.TUNE, numbers, table)
        with self.assertRaises(BadSize):
            check_course(made, self.TUNE, (0, 1, 2, 0), table)
        with self.assertRaises(BadSize):
            check_course(made, self.TUNE, (0, 0, 0, 0, 0), table)

    def test_bare_ends(self):
        made = style()
        self.assertIsNone(check_under(made, (60, 61), heights_under(made, (60, 61))))
        self.assertIsNone(check_under(made, (61, 60), heights_under(made, (61, 60))))

    def test_nothing_is_changed(self):
        made = style()
        tune, numbers = [60, 65, 61], [0, 1, 2]
        table = [{0: 0}, {1: 99}, {}]
        for refused in (lambda: best_course(made, tune), lambda: course_of(made, tune, numbers),
                        lambda: check_under(made, tune, table), lambda: check_course(made, tune, numbers, table)):
            with self.assertRaises((NoLine, BadSize, BadPaper)):
                refused()
        self.assertEqual((tune, numbers, table), ([60, 65, 61], [0, 1, 2], [{0: 0}, {1: 99}, {}]))
        self.assertEqual((made.chords, made.costs, made.moves), (CHORDS, COSTS, style().moves))
