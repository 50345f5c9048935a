import itertools
import random
import unittest

from voicewright.errors import BadSize
from voicewright.motives import (alike, all_motives, back_places, covered, longest_again, moved_places, places_of,
                                 shaped_places, spread_within, turned_places)


def tunes():
    dice = random.Random(11)
    found = [list(tune) for many in range(6) for tune in itertools.product((60, 61, 63), repeat=many)][::4]
    return found + [[dice.randrange(60, 64) for _ in range(dice.randrange(7, 14))] for _ in range(20)]


def motives():
    return [list(tune) for many in range(1, 4) for tune in itertools.product((50, 51, 52, 53), repeat=many)][::3]


def way(one, other):
    return (other > one) - (other < one)


def parts(motive, tune):
    return [(place, tune[place:place + len(motive)]) for place in range(len(tune) - len(motive) + 1)]


class Places(unittest.TestCase):
    def test_as_it_is(self):
        self.assertEqual(places_of((60, 62), [60, 62, 60, 62, 64]), (0, 2))
        self.assertEqual(places_of([60, 60], (60, 60, 60)), (0, 1))
        self.assertEqual(places_of((60, 62, 64), (60, 62)), ())
        self.assertEqual(places_of((60,), ()), ())
        self.assertEqual(places_of((), (60, 62)), (0, 1, 2))
        for tune in tunes():
            for motive in ([60], [61, 60], [63, 63, 60]):
                self.assertEqual(places_of(motive, tune), tuple(p for p, part in parts(motive, tune) if part == motive))

    def test_moved(self):
        self.assertEqual(moved_places((60, 62), (65, 67, 69, 60)), ((0, 5), (1, 7)))
        self.assertEqual(moved_places([60], [65, 50]), ((0, 5), (1, -10)))
        for tune in tunes():
            for motive in motives():
                wanted = [(p, steps) for p, part in parts(motive, tune) for steps in range(-20, 21)
                          if [note + steps for note in motive] == part]
                self.assertEqual(moved_places(motive, tune), tuple(wanted))
                self.assertEqual(moved_places(tuple(motive), tuple(tune)), tuple(wanted))

    def test_turned_over(self):
        self.assertEqual(turned_places((60, 62), (67, 65, 60)), ((0, 127),))
        for tune in tunes():
            for motive in motives():
                wanted = [(p, about) for p, part in parts(motive, tune) for about in range(100, 130)
                          if [about - note for note in motive] == part]
                self.assertEqual(turned_places(motive, tune), tuple(wanted))

    def test_backwards(self):
        self.assertEqual(back_places((60, 62, 67), (70, 65, 63)), ((0, 3),))
        for tune in tunes():
            for motive in motives():
                wanted = [(p, steps) for p, part in parts(motive, tune) for steps in range(-20, 21)
                          if [note + steps for note in motive[::-1]] == part]
                self.assertEqual(back_places(motive, tune), tuple(wanted))

    def test_by_shape(self):
        self.assertEqual(shaped_places((60, 64, 64), (50, 51, 51, 60, 60)), (0, 2))
        for tune in tunes():
            for motive in motives():
                shape = [way(a, b) for a, b in zip(motive, motive[1:])]
                wanted = [p for p, part in parts(motive, tune) if [way(a, b) for a, b in zip(part, part[1:])] == shape]
                self.assertEqual(shaped_places(motive, tune), tuple(wanted))

    def test_one_note_in_a_bare_tune(self):
        for find in (places_of, moved_places, turned_places, back_places, shaped_places):
            self.assertEqual(find((60,), ()), ())
            self.assertEqual(find((60, 61), (60,)), ())

    def test_bare_motives_are_refused(self):
        for find in (moved_places, turned_places, back_places, shaped_places, lambda m, t: covered(t, m)):
            for tune in ((), (60,), [60, 62]):
                with self.assertRaises(BadSize):
                    find((), tune)
                with self.assertRaises(BadSize):
                    find([], tune)

    def test_covered(self):
        self.assertEqual(covered((60, 62, 64, 60), (50, 52)), 3)
        self.assertEqual(covered((60, 60, 60), (50, 50)), 3)
        self.assertEqual(covered((), (50,)), 0)
        for tune in tunes():
            for motive in motives():
                found = {p + k for p, _ in moved_places(motive, tune) for k in range(len(motive))}
                self.assertEqual(covered(tune, motive), len(found))


class Spread(unittest.TestCase):
    def by_all(self, motive, tune, gap):
        for row in itertools.combinations(range(len(tune)), len(motive)):
            near = all(b - a - 1 <= gap for a, b in zip(row, row[1:]))
            if near and len({tune[p] - note for p, note in zip(row, motive)}) <= 1:
                return row
        return None

    def test_by_trying_all(self):
        for tune in tunes():
            for motive in motives():
                for gap in range(4):
                    self.assertEqual(spread_within(motive, tune, gap), self.by_all(motive, tune, gap))

    def test_longer_motives(self):
        dice = random.Random(3)
        for _ in range(60):
            tune = [dice.randrange(60, 63) for _ in range(11)]
            motive = [dice.randrange(40, 43) for _ in range(dice.randrange(4, 6))]
            for gap in (0, 1, 2, 5, 100):
                self.assertEqual(spread_within(motive, tune, gap), self.by_all(motive, tune, gap))

    def test_ordinary(self):
        self.assertEqual(spread_within((60, 64), (62, 63, 66, 66), 1), (0, 2))
        self.assertIsNone(spread_within((60, 64), (62, 63, 65, 66), 1))
        self.assertEqual(spread_within((60, 64), (62, 63, 65, 66), 2), (0, 3))
        self.assertEqual(spread_within((60, 62, 60), (60, 62, 62, 61, 60), 1), (0, 2, 4))
        self.assertIsNone(spread_within((60, 62), (60, 62), -1))

    def test_bare(self):
        self.assertEqual(spread_within((), (60, 62), 1), ())
        self.assertEqual(spread_within([], [], 0), ())
        self.assertIsNone(spread_within((60,), (), 3))
        self.assertEqual(spread_within((60,), (70,), 0), (0,))


class Again(unittest.TestCase):
    def test_longest_by_trying_all(self):
        for tune in tunes():
            row = [b - a for a, b in zip(tune, tune[1:])]
            found = [(-long, a, b) for long in range(1, len(row) + 1) for a in range(len(row) - long + 1)
                     for b in range(a + 1, len(row) - long + 1) if row[a:a + long] == row[b:b + long]]
            wanted = (-min(found)[0], *min(found)[1:]) if found else None
            self.assertEqual(longest_again(tune), wanted)

    def test_partly_over_itself(self):
        self.assertEqual(longest_again((60, 62, 64, 66, 68)), (3, 0, 1))
        self.assertEqual(longest_again([60, 61, 60, 61, 60, 61]), (3, 0, 2))

    def test_none(self):
        for tune in ((), (60,), (60, 62), (60, 62, 65), [60, 61, 60]):
            self.assertIsNone(longest_again(tune))
        self.assertEqual(longest_again((60, 60, 60)), (1, 0, 1))

    def test_the_first_of_as_long_ones(self):
        self.assertEqual(longest_again((0, 1, 3, 4, 6, 7)), (3, 0, 2))
        self.assertEqual(longest_again((0, 1, 3, 4, 9, 10)), (1, 0, 2))
        self.assertEqual(longest_again((9, 0, 2, 3, 5, 10, 11)), (1, 1, 3))

    def test_all_motives(self):
        self.assertEqual(all_motives((60, 62, 64, 66, 65, 67), 1), (((2,), (0, 1, 2, 4)),))
        self.assertEqual(all_motives([60, 61, 63, 64, 66, 67], 2), (((1, 2), (0, 2)), ((2, 1), (1, 3))))
        self.assertEqual(all_motives((60, 62), 1), ())
        self.assertEqual(all_motives((), 1), ())
        for tune in tunes():
            row = [b - a for a, b in zip(tune, tune[1:])]
            for long in range(1, 5):
                table = {}
                for p in range(len(row) - long + 1):
                    table[tuple(row[p:p + long])] = table.get(tuple(row[p:p + long]), ()) + (p,)
                wanted = sorted([(part, places) for part, places in table.items() if len(places) > 1],
                                key=lambda one: one[1])
                self.assertEqual(all_motives(tune, long), tuple(wanted))
        for long in (0, -1):
            with self.assertRaises(BadSize):
                all_motives((60, 62, 64), long)


class Alike(unittest.TestCase):
    def test_each_way(self):
        tune = (60, 62, 67, 66)
        self.assertEqual(alike(tune, (50, 52, 57, 56)), "moved")
        self.assertEqual(alike(tune, (60, 58, 53, 54)), "turned")
        self.assertEqual(alike(tune, (66, 67, 62, 60)), "back")
        self.assertEqual(alike(tune, (60, 59, 64, 66)), "back turned")
        self.assertIsNone(alike(tune, (60, 62, 67, 65)))
        self.assertIsNone(alike(tune, (60, 62, 67)))
        self.assertEqual(alike([60], (67,)), "moved")

    def test_the_first_that_holds(self):
        self.assertEqual(alike((60, 60), (61, 61)), "moved")
        self.assertEqual(alike((60, 62, 60), (60, 58, 60)), "turned")
        self.assertEqual(alike((60, 62), (62, 60)), "turned")
        self.assertEqual(alike((60, 62, 64), (64, 62, 60)), "turned")

    def test_bare_tunes_are_not(self):
        for one, other in (((), ()), ([], []), ((60,), ()), ((), (60,))):
            self.assertIsNone(alike(one, other))

    def test_by_trying_all(self):
        rows = [tuple(row) for many in range(1, 5) for row in itertools.product(range(3), repeat=many)]
        for one in rows[::2]:
            ways = (("moved", one), ("turned", [-n for n in one]), ("back", one[::-1]),
                    ("back turned", [-n for n in one[::-1]]))
            for other in rows[::3]:
                wanted = [word for word, way in ways
                          if len(way) == len(other) and len({a - b for a, b in zip(way, other)}) == 1]
                self.assertEqual(alike(one, list(other)), wanted[0] if wanted else None)
