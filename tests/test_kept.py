import random
import unittest

import oracle
from voicewright.errors import BadLine, BadPaper, NoLine
from voicewright.kept import Kept, worse_by
from voicewright.lines import Rules, best_line, check_heights, first_spots, heights, line_cost

SCALE = (60, 62, 64, 65, 67, 69, 71, 72, 74, 76)
GIVEN = (60, 62, 64, 62, 60)


def rules():
    return Rules(SCALE)


def shown(kept):
    return (kept.given, kept.heights(), kept.cost(), kept.done)


class Keeping(unittest.TestCase):
    def check_anew(self, kept, given):
        """Compare all that a kept line tells with what is worked out from the given line."""
        made = kept.rules
        table = heights(given, made)
        self.assertEqual(kept.given, tuple(given))
        self.assertEqual(kept.heights(), table)
        self.assertEqual(kept.table, list(table))
        self.assertEqual([kept.next_heights(place) for place in range(len(given))], list(table))
        cost = check_heights(given, made, table)
        self.assertEqual(kept.cost(), cost)
        if cost is None:
            for refused in (kept.line, kept.check, lambda: worse_by(kept, given)):
                with self.assertRaises(NoLine):
                    refused()
        else:
            self.assertEqual(kept.line(), best_line(given, made))
            self.assertEqual(kept.check(), cost)
            self.assertEqual(worse_by(kept, kept.line()), 0)

    def test_fields(self):
        made = rules()
        kept = Kept(list(GIVEN), made)
        self.assertEqual(kept.given, GIVEN)
        self.assertIs(kept.rules, made)
        self.assertIs(type(kept.table), list)
        self.assertEqual(kept.done, 5)
        self.check_anew(kept, GIVEN)

    def test_no_notes(self):
        kept = Kept((), rules())
        self.assertEqual((kept.given, kept.table, kept.done), ((), [], 0))
        self.assertEqual((kept.cost(), kept.line(), kept.heights(), kept.check()), (0, (), (), 0))
        self.assertEqual(worse_by(kept, ()), 0)
        self.assertEqual(kept.change(0, 0, ()), 0)
        self.assertEqual(kept.change(0, 0, (60,)), 0)
        self.check_anew(kept, (60,))
        self.assertEqual(kept.change(0, 1, []), 0)
        self.check_anew(kept, ())

    def test_changes_by_chance(self):
        dice = random.Random(17)
        kept = Kept(GIVEN, Rules(SCALE[::2] + (62,), 9))
        given = list(GIVEN)
        for _ in range(300):
            place = dice.randrange(len(given) + 1)
            many = dice.randrange(min(3, len(given) - place) + 1)
            notes = [dice.choice(SCALE) for _ in range(dice.randrange(4 if len(given) < 8 else 2))]
            was_last = len(given) - 1
            given[place:place + many] = notes
            stays = place - 1 if place > 0 and place - 1 in (was_last, len(given) - 1) else place
            before = kept.done
            cost = kept.change(place, many, tuple(notes))
            self.check_anew(kept, given)
            self.assertEqual(cost, kept.cost())
            self.assertEqual(kept.done - before, len(given) - stays)

    def test_done_is_no_more_than_may_change(self):
        kept = Kept(GIVEN, rules())
        for place, many, notes, more in ((5, 0, (64,), 2), (5, 1, (), 1), (4, 1, (64,), 1), (4, 0, (60,), 2),
                                         (6, 0, (62, 60), 3), (2, 1, (65,), 6), (0, 0, (60,), 9), (3, 0, (), 6),
                                         (9, 0, (), 1), (0, 9, (), 0), (0, 0, (60, 62), 2)):
            before = kept.done
            kept.change(place, many, notes)
            self.assertEqual(kept.done - before, more)

    def test_tables_ahead_stay(self):
        kept = Kept(GIVEN, rules())
        ahead = kept.table[:3]
        kept.change(3, 1, (65, 64))
        self.assertTrue(all(one is other for one, other in zip(ahead, kept.table)))

    def test_no_line(self):
        kept = Kept((60, 61, 60), Rules((60,)))
        self.assertIsNone(kept.cost())
        self.check_anew(kept, (60, 61, 60))
        self.assertEqual(kept.change(1, 1, ()), 2)
        self.check_anew(kept, (60, 60))
        self.assertIsNone(kept.change(2, 0, (61,)))
        self.check_anew(kept, (60, 60, 61))

    def test_lines_are_the_best_of_all(self):
        kept = Kept((60, 64, 62, 60), rules())
        kept.change(1, 1, (65,))
        ways = oracle.all_lines(kept.given, SCALE)
        least = min(oracle.cost_of_line(kept.given, way, 1, 2) for way in ways)
        self.assertEqual(kept.cost(), least)
        self.assertEqual(kept.line(), min((way for way in ways if oracle.cost_of_line(kept.given, way, 1, 2) == least),
                                          key=lambda way: way[::-1]))

    def test_refused_changes_change_nothing(self):
        kept = Kept(GIVEN, rules())
        before = shown(kept)
        for place, many in ((-1, 0), (-1, 1), (0, -1), (6, 0), (5, 1), (0, 6), (3, 3), (6, -1), (3, -1)):
            with self.assertRaises(BadLine):
                kept.change(place, many, (60,))
            self.assertEqual(shown(kept), before)

    def test_what_is_handed_in_stays(self):
        given, notes = list(GIVEN), [65, 64]
        kept = Kept(given, rules())
        kept.change(1, 2, notes)
        given.append(60)
        notes.clear()
        self.assertEqual(kept.given, (60, 65, 64, 62, 60))

    def test_told_heights_are_copies(self):
        kept = Kept(GIVEN, rules())
        kept.heights()[0].clear()
        self.check_anew(kept, GIVEN)

    def test_fill(self):
        kept = Kept(GIVEN, rules())
        self.assertIsNone(kept.fill())
        self.assertEqual(kept.done, 5)
        del kept.table[2:]
        kept.fill()
        self.assertEqual(kept.done, 8)
        self.check_anew(kept, GIVEN)
        self.assertEqual(kept.next_heights(0), first_spots(GIVEN, kept.rules))

    def test_check_looks_the_heights_through(self):
        kept = Kept(GIVEN, rules())
        spot = sorted(kept.table[2])[0]
        kept.table[2][spot] += 50
        with self.assertRaises(BadPaper):
            kept.check()


class Worse(unittest.TestCase):
    def test_worse_by(self):
        kept = Kept(GIVEN, rules())
        best = kept.cost()
        for way in oracle.all_lines(GIVEN, SCALE)[:200] + [(60, 72, 60, 72, 60), (1, 2, 3, 4, 5)]:
            self.assertEqual(worse_by(kept, way), line_cost(GIVEN, way, kept.rules) - best)
        self.assertGreater(worse_by(kept, (60, 72, 60, 72, 60)), 0)

    def test_refused(self):
        kept = Kept(GIVEN, rules())
        for line in ((), (60,), GIVEN + (60,)):
            with self.assertRaises(BadLine):
                worse_by(kept, line)
        with self.assertRaises(NoLine):
            worse_by(Kept((60, 61), Rules((60,))), (60, 60))
