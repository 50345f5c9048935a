import itertools
import random
import unittest
from fractions import Fraction

from voicewright.errors import BadPaper, BadTime
from voicewright.players import (check_notes, check_players, end_of, fewest, fullest, order_of, overlaps, part_of,
                                 players_of, sounding)

NOTES = [((1, 1), (1, 1), 60), ((0, 1), (2, 1), 64), ((0, 1), (1, 1), 67), ((2, 1), (1, 2), 60), ((3, 2), (1, 4), 72)]


def lots():
    dice = random.Random(7)
    found = [[], NOTES, NOTES[:1]]
    for many in [1, 2, 3, 3, 4, 4, 5, 5, 5, 6, 6, 6] * 4:
        found.append([((dice.randrange(8), dice.choice((1, 2, 3))), (dice.randrange(1, 6), dice.choice((1, 2, 3))),
                       dice.randrange(60, 64)) for _ in range(many)])
    return found


def start_of(row):
    return Fraction(*row[0])


def end(row):
    return Fraction(*row[0]) + Fraction(*row[1])


def at_once(one, other):
    return start_of(one) < end(other) and start_of(other) < end(one)


def may_play(notes, players):
    return not any(players[a] == players[b] and at_once(notes[a], notes[b])
                   for a, b in itertools.combinations(range(len(notes)), 2))


class Notes(unittest.TestCase):
    def test_check_notes(self):
        self.assertEqual(check_notes(tuple(NOTES)), NOTES)
        self.assertEqual(check_notes([((2, 4), (2, 2), 60)]), [((2, 4), (2, 2), 60)])
        self.assertEqual(check_notes(()), [])

    def test_without_a_length(self):
        for length in ((0, 1), (-1, 2), (1, 0)):
            notes = [NOTES[0], ((0, 1), length, 60)]
            for refused in (check_notes, players_of, lambda n: sounding(n, (0, 1)), fullest, fewest, overlaps, end_of,
                            lambda n: check_players(n, (0, 1), (0, 1)), lambda n: part_of(n, (0, 1), 0)):
                with self.assertRaises(BadTime):
                    refused(notes)
            self.assertEqual(notes, [NOTES[0], ((0, 1), length, 60)])

    def test_order_of(self):
        self.assertEqual(order_of(NOTES), [1, 2, 0, 4, 3])
        self.assertEqual(order_of(()), [])
        for notes in lots():
            self.assertEqual(order_of(notes), sorted(range(len(notes)), key=lambda k: (start_of(notes[k]), k)))


class Players(unittest.TestCase):
    def test_ordinary(self):
        self.assertEqual(players_of(NOTES), (1, 0, 1, 0, 2))
        self.assertEqual(players_of([]), ())
        self.assertEqual(players_of([((0, 1), (1, 1), 60), ((1, 1), (1, 1), 60)]), (0, 0))

    def test_the_first_that_is_free(self):
        for notes in lots():
            players = players_of(notes)
            free = {}
            for place in sorted(range(len(notes)), key=lambda k: (start_of(notes[k]), k)):
                wanted = min(k for k in range(len(notes)) if free.get(k, 0) <= start_of(notes[place]))
                self.assertEqual(players[place], wanted)
                free[wanted] = end(notes[place])

    def test_as_few_as_can_be(self):
        for notes in lots():
            if len(notes) > 5:
                continue
            players = players_of(notes)
            self.assertTrue(may_play(notes, players))
            ways = itertools.product(range(len(notes)), repeat=len(notes))
            least = min(len(set(way)) for way in ways if may_play(notes, way))
            self.assertEqual(len(set(players)), least)
            self.assertEqual(fewest(notes), least)
            time = fullest(notes)[0] if notes else None
            self.assertEqual(check_players(notes, players, time), least)

    def test_many_notes(self):
        notes = [((k, 3), (7, 3), 60) for k in range(400)]
        self.assertEqual(fewest(notes), 7)
        self.assertEqual(check_players(notes, players_of(notes), fullest(notes)[0]), 7)


class Sounding(unittest.TestCase):
    def test_from_starts_on_not_at_ends(self):
        notes = [((1, 1), (1, 1), 60)]
        for time, wanted in (((99, 100), ()), ((1, 1), (0,)), ((199, 100), (0,)), ((2, 1), ()), ((-1, 1), ())):
            self.assertEqual(sounding(notes, time), wanted)
        self.assertEqual(sounding(NOTES, (3, 2)), (0, 1, 4))
        self.assertEqual(sounding((), (0, 1)), ())
        for notes in lots():
            for time in ((0, 1), (1, 2), (1, 1), (2, 1), (7, 3), (5, 1)):
                wanted = [k for k, row in enumerate(notes) if start_of(row) <= Fraction(*time) < end(row)]
                self.assertEqual(sounding(notes, time), tuple(wanted))

    def test_fullest(self):
        self.assertEqual(fullest(NOTES), ((3, 2), (0, 1, 4)))
        self.assertIsNone(fullest([]))
        self.assertEqual(fewest([]), 0)
        self.assertEqual(fullest([((2, 1), (1, 1), 60), ((1, 1), (1, 1), 62)]), ((1, 1), (1,)))
        self.assertEqual(fullest([((4, 2), (2, 2), 60)]), ((2, 1), (0,)))
        for notes in lots()[1:]:
            counts = {start_of(row): sum(start_of(one) <= start_of(row) < end(one) for one in notes) for row in notes}
            wanted = min(time for time in counts if counts[time] == max(counts.values()))
            time, places = fullest(notes)
            self.assertEqual(Fraction(*time), wanted)
            self.assertEqual(places, sounding(notes, time))
            self.assertEqual(fewest(notes), counts[wanted])

    def test_overlaps(self):
        self.assertEqual(overlaps(NOTES), ((0, 1), (0, 4), (1, 2), (1, 4)))
        self.assertEqual(overlaps(()), ())
        for notes in lots():
            wanted = [(a, b) for a, b in itertools.combinations(range(len(notes)), 2) if at_once(notes[a], notes[b])]
            self.assertEqual(overlaps(notes), tuple(wanted))

    def test_end_of(self):
        self.assertEqual(end_of(NOTES), (5, 2))
        self.assertEqual(end_of([]), (0, 1))
        self.assertEqual(end_of([((0, 1), (2, 4), 60)]), (1, 2))
        self.assertEqual(end_of([((-3, 1), (1, 1), 60)]), (-2, 1))
        for notes in lots()[1:]:
            self.assertEqual(Fraction(*end_of(notes)), max(end(row) for row in notes))

    def test_part_of(self):
        self.assertEqual(part_of(NOTES, (1, 0, 1, 0, 2), 1), (NOTES[2], NOTES[0]))
        self.assertEqual(part_of(NOTES, (1, 0, 1, 0, 2), 0), (NOTES[1], NOTES[3]))
        self.assertEqual(part_of(NOTES, (1, 0, 1, 0, 2), 3), ())
        self.assertEqual(part_of([], (), 0), ())


class Papers(unittest.TestCase):
    def test_taken(self):
        self.assertEqual(check_players(NOTES, (1, 0, 1, 0, 2), (3, 2)), 3)
        self.assertEqual(check_players(NOTES, [0, 2, 0, 2, 1], (3, 2)), 3)
        self.assertEqual(check_players([], (), (0, 1)), 0)
        self.assertEqual(check_players((), [], None), 0)

    def test_two_at_once(self):
        for players in ((0, 0, 1, 1, 2), (1, 0, 0, 0, 2), (1, 0, 1, 0, 1), (0, 0, 0, 0, 0)):
            with self.assertRaises(BadPaper):
                check_players(NOTES, players, (3, 2))

    def test_more_than_needed(self):
        for players in ((1, 0, 3, 0, 2), (0, 1, 2, 3, 4)):
            with self.assertRaises(BadPaper):
                check_players(NOTES, players, (3, 2))

    def test_a_time_at_which_fewer_sound(self):
        for time in ((0, 1), (1, 1), (7, 4), (9, 1)):
            with self.assertRaises(BadPaper):
                check_players(NOTES, (1, 0, 1, 0, 2), time)

    def test_another_count(self):
        for players in ((1, 0, 1, 0), (1, 0, 1, 0, 2, 2), ()):
            with self.assertRaises(BadPaper):
                check_players(NOTES, players, (3, 2))
        with self.assertRaises(BadPaper):
            check_players([], (0,), (0, 1))

    def test_by_trying_all(self):
        for notes in lots():
            if 0 < len(notes) < 5:
                for players in itertools.product(range(len(notes)), repeat=len(notes)):
                    for time in sorted({row[0] for row in notes}):
                        good = may_play(notes, players) and len(set(players)) == len(sounding(notes, time))
                        if good:
                            self.assertEqual(check_players(notes, players, time), len(set(players)))
                        else:
                            with self.assertRaises(BadPaper):
                                check_players(notes, players, time)
