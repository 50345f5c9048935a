import itertools
import random
import unittest

from voicewright.errors import BadPaper, BadSize, NoLine
from voicewright.hands import Neck, best_spots, check_spots, cost_of_spots, grips, heights_of, move

STRINGS = (40, 45, 50, 55)
NECK = Neck(STRINGS, 7)


def tunes():
    dice = random.Random(25)
    found = [(), (40,), (62,), (45, 47, 50, 52), (55, 55, 55), (50, 45, 40)]
    return found + [tuple(dice.randrange(40, 63) for _ in range(dice.randrange(2, 6))) for _ in range(30)]


def spots_of(note, strings=STRINGS, places=7):
    return [(k, place) for k in range(len(strings)) for place in range(places + 1) if strings[k] + place == note]


def step(one, other):
    pressed = one[1] > 0 and other[1] > 0
    return abs(one[0] - other[0]) + (abs(one[1] - other[1]) if pressed else 0)


def cost(spots):
    return sum(step(one, other) for one, other in zip(spots, spots[1:]))


def all_ways(tune):
    return list(itertools.product(*[spots_of(note) for note in tune]))


class Necks(unittest.TestCase):
    def test_fields(self):
        made = Neck(list(STRINGS), 12)
        self.assertEqual((made.strings, made.places), (STRINGS, 12))
        strings = [40, 45]
        made = Neck(strings, 0)
        strings.pop()
        self.assertEqual((made.strings, made.places), ((40, 45), 0))

    def test_refused(self):
        for strings, places in (([], 5), ((), 0), (STRINGS, -1), ([], -1)):
            with self.assertRaises(BadSize):
                Neck(strings, places)

    def test_spots(self):
        for note in range(35, 70):
            self.assertEqual(NECK.spots(note), tuple(spots_of(note)))
        self.assertEqual(NECK.spots(50), ((1, 5), (2, 0)))
        self.assertEqual(NECK.spots(39), ())
        self.assertEqual(Neck((40, 40), 0).spots(40), ((0, 0), (1, 0)))

    def test_note(self):
        for string, place in itertools.product(range(4), range(8)):
            self.assertEqual(NECK.note((string, place)), STRINGS[string] + place)
        for spot in ((-1, 0), (4, 0), (0, -1), (0, 8), (9, 9)):
            with self.assertRaises(BadSize):
                NECK.note(spot)


class Playing(unittest.TestCase):
    def test_move(self):
        for one, other in itertools.product(itertools.product(range(4), range(8)), repeat=2):
            self.assertEqual(move(one, other), step(one, other))
        self.assertEqual(move((0, 3), (2, 5)), 4)
        self.assertEqual(move((0, 3), (2, 0)), 2)
        self.assertEqual(move((0, 0), (2, 7)), 2)

    def test_best_by_trying_all(self):
        for tune in tunes():
            ways = all_ways(tune)
            least = min(cost(way) for way in ways)
            wanted = min((way for way in ways if cost(way) == least), key=lambda way: way[::-1])
            self.assertEqual(best_spots(NECK, tune), wanted)
            self.assertEqual(best_spots(NECK, list(tune)), wanted)
            self.assertEqual(cost_of_spots(NECK, tune, wanted), least)
            self.assertEqual(check_spots(NECK, tune, wanted, heights_of(NECK, tune)), least)

    def test_heights_by_trying_all(self):
        for tune in tunes():
            table = heights_of(NECK, tune)
            self.assertIs(type(table), tuple)
            for long in range(1, len(tune) + 1):
                wanted = {}
                for way in all_ways(tune[:long]):
                    wanted[way[-1]] = min(cost(way), wanted.get(way[-1], cost(way)))
                self.assertEqual(table[long - 1], wanted)

    def test_no_notes(self):
        self.assertEqual(heights_of(NECK, ()), ())
        self.assertEqual(best_spots(NECK, ()), ())
        self.assertEqual(cost_of_spots(NECK, (), ()), 0)
        self.assertEqual(check_spots(NECK, (), (), ()), 0)

    def test_a_note_that_is_not_to_be_had(self):
        for tune in ((39,), (63,), (40, 39), (39, 40), (40, 63, 40)):
            with self.assertRaises(NoLine):
                best_spots(NECK, tune)

    def test_cost_of_spots_refused(self):
        for spots in ((), ((0, 0),), ((0, 0), (1, 1)), ((0, 0), (0, 8)), ((0, 0), (4, 0)), ((0, 0), (0, 5), (0, 0)),
                      ((0, -5), (0, 5)), ((1, -5), (0, 5))):
            with self.assertRaises(BadSize):
                cost_of_spots(NECK, (40, 45), spots)
        self.assertEqual(cost_of_spots(NECK, (40, 45), [(0, 0), (0, 5)]), 0)
        self.assertEqual(cost_of_spots(NECK, (41, 45, 46), [(0, 1), (0, 5), (1, 1)]), 9)


class Papers(unittest.TestCase):
    TUNE = (50, 52, 57, 55, 60)

    def table(self):
        return [dict(here) for here in heights_of(NECK, self.TUNE)]

    def test_dearer_ways(self):
        ways = all_ways(self.TUNE)
        least = min(cost(way) for way in ways)
        self.assertGreater(max(cost(way) for way in ways), least)
        for way in ways:
            if cost(way) == least:
                self.assertEqual(check_spots(NECK, self.TUNE, way, self.table()), least)
            else:
                with self.assertRaises(BadPaper):
                    check_spots(NECK, self.TUNE, way, self.table())

    def test_too_high_or_left_out(self):
        best = best_spots(NECK, self.TUNE)
        for place, here in enumerate(self.table()):
            for spot in here:
                table = self.table()
                table[place][spot] += 1
                with self.assertRaises(BadPaper):
                    check_spots(NECK, self.TUNE, best, table)
                del table[place][spot]
                with self.assertRaises(BadPaper):
                    check_spots(NECK, self.TUNE, best, table)

    def test_lower_heights_show_less(self):
        table = [{spot: -1 for spot in here} for here in self.table()]
        with self.assertRaises(BadPaper):
            check_spots(NECK, self.TUNE, best_spots(NECK, self.TUNE), table)
        with self.assertRaises(BadPaper):
            check_spots(NECK, (45,), ((1, 0),), ({(0, 5): -1, (1, 0): -1},))

    def test_another_length(self):
        best = best_spots(NECK, self.TUNE)
        for table in (self.table()[:-1], self.table() + [{}], []):
            for spots in (best, (), ((9, 9),) * 5):
                with self.assertRaises(BadPaper):
                    check_spots(NECK, self.TUNE, spots, table)

    def test_spots_that_are_not_the_notes(self):
        best = best_spots(NECK, self.TUNE)
        for spots in (best[:-1], best + best[:1], (), best[:-1] + ((9, 9),), best[:-1] + ((0, 0),)):
            with self.assertRaises(BadSize):
                check_spots(NECK, self.TUNE, spots, self.table())

    def test_nothing_is_changed(self):
        table, spots = self.table(), [(0, 0)]
        with self.assertRaises(BadSize):
            check_spots(NECK, self.TUNE, spots, table)
        self.assertEqual((table, spots, NECK.strings, NECK.places), (self.table(), [(0, 0)], STRINGS, 7))


class Grips(unittest.TestCase):
    def test_by_trying_all(self):
        dice = random.Random(6)
        for many in range(5):
            for _ in range(12):
                notes = tuple(dice.randrange(39, 64) for _ in range(many))
                for wide in (0, 1, 3, 7):
                    wanted = []
                    for way in all_ways(notes):
                        pressed = [place for _, place in way if place > 0]
                        if len({string for string, _ in way}) == many and (
                                not pressed or max(pressed) - min(pressed) <= wide):
                            wanted.append(way)
                    self.assertEqual(grips(NECK, notes, wide), tuple(sorted(wanted)))

    def test_ordinary(self):
        self.assertEqual(grips(NECK, (43, 50), 0), (((0, 3), (2, 0)),))
        self.assertEqual(grips(NECK, (43, 50), 2), (((0, 3), (1, 5)), ((0, 3), (2, 0))))
        self.assertEqual(grips(NECK, (40, 41), 7), ())
        self.assertEqual(grips(NECK, (39,), 7), ())
        self.assertEqual(grips(NECK, (), 0), ((),))
        with self.assertRaises(BadSize):
            grips(NECK, (40,), -1)
