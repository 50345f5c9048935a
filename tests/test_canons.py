import itertools
import unittest

import oracle
from voicewright.canons import (all_canons, all_mirrors, backwards, best_canon, canon_heights, check_canon, crab,
                                follows_at, may_add, may_sound, mirrored, next_states, overlap, round_may, tune_cost)
from voicewright.errors import BadNote, BadPaper, BadSize, NoLine

NOTES = (60, 62, 64, 65, 67)
TUNES = [(60, 62, 64, 60, 67, 64), (60, 64, 67, 72, 67, 64, 60), (67, 65, 64, 62, 60), (60,), (60, 60, 67, 67), (),
         (60, 62, 60, 59, 60), (60, 63, 67, 62, 58, 70)]


class Following(unittest.TestCase):
    def test_overlap(self):
        self.assertEqual(overlap((1, 2, 3), (7, 8, 9), 0), ((1, 7), (2, 8), (3, 9)))
        self.assertEqual(overlap([1, 2, 3], [7, 8, 9], 1), ((2, 7), (3, 8)))
        self.assertEqual(overlap((1, 2, 3, 4), (7,), 2), ((3, 7),))
        self.assertEqual(overlap((1, 2), (7, 8, 9), 1), ((2, 7),))
        self.assertEqual(overlap((1, 2, 3), (7, 8, 9), 3), ())
        self.assertEqual(overlap((1, 2, 3), (7, 8, 9), 9), ())
        self.assertEqual(overlap((), (), 0), ())
        with self.assertRaises(BadSize):
            overlap((1, 2, 3), (7, 8, 9), -1)

    def test_may_sound(self):
        self.assertIs(may_sound(()), True)
        self.assertIs(may_sound(((60, 67), (62, 71))), True)
        self.assertIs(may_sound(((60, 67), (62, 69))), False)
        self.assertIs(may_sound(((60, 64), (62, 66))), True)
        self.assertIs(may_sound(((60, 64), (62, 67))), False)
        self.assertIs(may_sound(((60, 67), (64, 67), (62, 69))), True)
        self.assertIs(may_sound(((60, 72), (62, 62))), False)
        self.assertIs(may_sound(((60, 67), (60, 72))), True)
        self.assertIs(may_sound([(60, 65)]), False)
        lot = [(60, 60), (60, 67), (62, 69), (60, 64), (62, 67), (67, 60), (72, 60)]
        for pairs in itertools.product(lot, repeat=3):
            self.assertIs(may_sound(pairs), oracle.pairs_sound(pairs))

    def test_all_canons(self):
        delays, shifts = range(0, 8), range(-13, 14)
        some = 0
        for tune in TUNES:
            wanted = tuple((delay, shift) for delay in delays for shift in shifts
                           if oracle.tune_keeps(tune, delay, shift))
            self.assertEqual(all_canons(tune, delays, shifts), wanted)
            some += len(wanted)
            for delay, shift in itertools.product(delays, shifts):
                self.assertIs(follows_at(tune, delay, shift), (delay, shift) in wanted)
        self.assertGreater(some, 100)
        self.assertEqual(all_canons((60, 62), (), (0,)), ())

    def test_delay_below_nought(self):
        for refused in (lambda: follows_at((60, 62), -1, 0), lambda: all_canons((60, 62), (-1,), (0,)),
                        lambda: all_mirrors((60, 62), (-1,), (120,)), lambda: canon_heights(NOTES, 3, -1, 0),
                        lambda: best_canon(NOTES, 3, -1, 0), lambda: canon_heights(NOTES, -1, 0, 0),
                        lambda: best_canon(NOTES, -1, 1, 0)):
            with self.assertRaises(BadSize):
                refused()

    def test_mirrors(self):
        self.assertEqual(mirrored((60, 64, 67), 120), (60, 56, 53))
        self.assertEqual(mirrored([], 120), ())
        with self.assertRaises(BadNote):
            mirrored((60, 64), 63)
        with self.assertRaises(BadNote):
            mirrored((60, 4), 125)
        delays, abouts = range(0, 6), range(100, 140)
        for tune in TUNES:
            wanted = tuple((delay, about) for delay in delays for about in abouts
                           if oracle.pairs_sound(oracle.sounding(tune, [about - note for note in tune], delay)))
            self.assertEqual(all_mirrors(tune, delays, abouts), wanted)

    def test_backwards_and_crab(self):
        self.assertEqual(backwards([60, 64, 67]), (67, 64, 60))
        self.assertEqual(backwards(()), ())
        seen = set()
        for tune in itertools.chain(TUNES, itertools.product((60, 62, 64, 67), repeat=4)):
            wanted = oracle.pairs_sound(list(zip(tune, tune[::-1])))
            self.assertIs(crab(tune), wanted)
            seen.add(wanted)
        self.assertEqual(seen, {True, False})

    def test_rounds(self):
        seen = []
        tunes = [(60, 64, 67, 72), (60, 64, 67, 64), (60, 62, 64, 67, 65, 64), (60, 60, 67, 67), (60, 64)]
        for tune in tunes + list(itertools.product((60, 64, 67), repeat=4)):
            for delay in range(1, len(tune)):
                # Three times round are long enough to hear each seam.
                leader = tune * 3
                wanted = oracle.pairs_sound(oracle.sounding(leader, leader, delay)[len(tune):])
                self.assertIs(round_may(tune, delay), wanted)
                seen.append(wanted)
        self.assertTrue(True in seen and False in seen)

    def test_a_round_seam(self):
        # Only from the last note to the first do the lines run alike.
        tune = (67, 64, 60, 64, 60)
        found = [delay for delay in range(1, 5) if round_may(tune, delay)]
        wanted = [delay for delay in range(1, 5)
                  if oracle.pairs_sound(oracle.sounding(tune * 3, tune * 3, delay)[5:])]
        self.assertEqual(found, wanted)

    def test_rounds_refused(self):
        for tune, delay in (((60, 64), 0), ((60, 64), 2), ((60, 64), -1), ((60,), 1), ((), 0), ((60, 64, 67), 3)):
            with self.assertRaises(BadSize):
                round_may(tune, delay)


class NewTunes(unittest.TestCase):
    cases = [(long, delay, shift) for long in range(6) for delay in range(4) for shift in (-5, 0, 3, 7, 12)]

    def lines(self, long, delay, shift):
        return [tune for tune in itertools.product(NOTES, repeat=long) if oracle.tune_keeps(tune, delay, shift)]

    def test_costs(self):
        self.assertEqual(tune_cost((60, 62, 62, 59)), 7)
        self.assertEqual(tune_cost((60,)), 0)
        self.assertEqual(tune_cost(()), 0)

    def test_may_add(self):
        for tune in itertools.product((60, 62, 64, 67), repeat=3):
            for delay, shift, note in itertools.product(range(5), (0, 4, 7), (60, 64, 67, 69)):
                # What goes before is not asked here, only what the new note brings.
                pairs = oracle.sounding(tune + (note,), [one + shift for one in tune + (note,)], delay)
                self.assertIs(may_add(tune, note, delay, shift),
                              len(tune) < delay or oracle.pairs_sound(pairs[-2:]) or
                              (oracle.together(*pairs[-1]) and not oracle.together(*pairs[-2])))
        self.assertIs(may_add((), 60, 0, 5), False)
        self.assertIs(may_add((), 60, 0, 7), True)
        self.assertIs(may_add((), 60, 1, 5), True)

    def test_next_states(self):
        self.assertEqual(next_states((), (64, 60), 1, 7), [((60,), 0), ((64,), 0)])
        self.assertEqual(next_states((60,), (67, 60, 64), 1, 4), [((60, 60), 2), ((60, 64), 4), ((60, 67), 7)])
        self.assertEqual(next_states((60, 64), (67, 60, 64, 60), 1, 3), [((64, 60), 4), ((64, 64), 2), ((64, 67), 3)])
        self.assertEqual(next_states((60,), (60, 62), 0, 7), [((60,), 2)])
        self.assertEqual(next_states((60, 62, 64), (60,), 2, 0), [])
        self.assertEqual(next_states((60, 65, 64), (65,), 2, 0), [((65, 64, 65), 1)])

    def test_heights(self):
        for long, delay, shift in self.cases:
            table = canon_heights(NOTES, long, delay, shift)
            self.assertIs(type(table), tuple)
            wanted = []
            for many in range(long + 1):
                here = {}
                for tune in self.lines(many, delay, shift):
                    state = tune[max(many - delay - 1, 0):]
                    cost = oracle.cost_of_tune(tune)
                    here[state] = min(cost, here.get(state, cost))
                wanted.append(here)
            self.assertEqual(list(table), wanted)

    def test_best_canon(self):
        none = some = 0
        for long, delay, shift in self.cases:
            lines = self.lines(long, delay, shift)
            if not lines:
                none += 1
                with self.assertRaises(NoLine):
                    best_canon(NOTES, long, delay, shift)
                continue
            some += 1
            # From the end back, the state of each length, the lowest of as good ones.
            found = [(oracle.cost_of_tune(tune),
                      [tune[max(many - delay - 1, 0):many] for many in range(long, -1, -1)], tune) for tune in lines]
            tune = best_canon(NOTES, long, delay, shift)
            self.assertEqual(tune, min(found)[2])
            self.assertIs(type(tune), tuple)
            table = canon_heights(NOTES, long, delay, shift)
            self.assertEqual(check_canon(tune, NOTES, delay, shift, table), min(found)[0])
        self.assertTrue(none > 4 and some > 50)

    def test_best_canon_of_other_notes(self):
        for notes, long, delay, shift in (((62, 70, 71, 72), 4, 2, 7), ((64, 66, 68, 69, 71, 72), 4, 2, 12),
                                          ((60, 62, 64, 65, 71), 4, 1, 9), ((63, 68, 69, 72, 74), 5, 2, 0)):
            found = [(oracle.cost_of_tune(tune), [tune[max(many - delay - 1, 0):many] for many in range(long, -1, -1)])
                     for tune in itertools.product(notes, repeat=long) if oracle.tune_keeps(tune, delay, shift)]
            tune = best_canon(notes, long, delay, shift)
            self.assertEqual([tune[max(many - delay - 1, 0):many] for many in range(long, -1, -1)], min(found)[1])

    def test_notes_in_any_order(self):
        self.assertEqual(best_canon((67, 60, 64, 62, 60), 5, 1, 7), best_canon((60, 62, 64, 67), 5, 1, 7))

    def test_no_tune(self):
        with self.assertRaises(NoLine):
            best_canon((), 1, 0, 0)
        self.assertEqual(best_canon((), 0, 0, 0), ())
        with self.assertRaises(NoLine):
            best_canon((60, 61), 2, 0, 5)


class Papers(unittest.TestCase):
    def setUp(self):
        self.told = (NOTES, 1, 7)
        self.table = [dict(here) for here in canon_heights(NOTES, 5, 1, 7)]
        self.tune = best_canon(NOTES, 5, 1, 7)

    def refused(self, tune, table):
        with self.assertRaises(BadPaper):
            check_canon(tune, *self.told, table)

    def test_taken(self):
        self.assertEqual(check_canon(self.tune, *self.told, self.table), tune_cost(self.tune))
        self.assertEqual(check_canon((), NOTES, 1, 7, [{(): 0}]), 0)

    def test_steeper_or_left_out(self):
        for place, here in enumerate(self.table):
            for state in here:
                table = [dict(row) for row in self.table]
                table[place][state] += 1
                self.refused(self.tune, table)
                del table[place][state]
                self.refused(self.tune, table)

    def test_bare_other_lengths_and_lower(self):
        self.refused(self.tune, [{} for _ in self.table])
        for table in ([], self.table[:-1], self.table + [{}], self.table[1:]):
            self.refused(self.tune, table)
        self.refused(self.tune, [{state: height - 1 for state, height in here.items()} for here in self.table])

    def test_other_tunes(self):
        low = tune_cost(self.tune)
        kept = 0
        for tune in itertools.product(NOTES, repeat=5):
            if oracle.tune_keeps(tune, 1, 7) and oracle.cost_of_tune(tune) == low:
                self.assertEqual(check_canon(tune, *self.told, self.table), low)
                kept += 1
            else:
                self.refused(tune, self.table)
        self.assertGreater(kept, 0)

    def test_a_note_not_to_be_had(self):
        few = tuple(note for note in NOTES if note != self.tune[0])
        with self.assertRaises(BadPaper):
            check_canon(self.tune, few, 1, 7, canon_heights(few, 5, 1, 7))
        # All else is right here: the tune follows itself and comes at the least cost.
        self.assertEqual(check_canon((60,), (60,), 1, 0, [{(): 0}, {(60,): 0}]), 0)
        with self.assertRaises(BadPaper):
            check_canon((67,), (60,), 1, 0, [{(): 0}, {(60,): 0}])

    def test_no_tune_and_delay_below_nought(self):
        self.refused((61, 63, 65, 66, 68), self.table)
        with self.assertRaises(BadPaper):
            check_canon((60, 62), (60, 62), 0, 5, canon_heights((60, 62), 2, 0, 5))
        with self.assertRaises(BadSize):
            check_canon((), NOTES, -1, 7, [{(): 0}])

    def test_what_is_handed_in_stays(self):
        copied = [dict(here) for here in self.table]
        tune = list(self.tune)
        check_canon(tune, *self.told, self.table)
        self.refused([60] * 5, self.table)
        self.assertEqual((self.table, tune), (copied, list(self.tune)))
