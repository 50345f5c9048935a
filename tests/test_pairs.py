import itertools
import unittest

import oracle
from voicewright.errors import BadLine, BadPaper, NoLine
from voicewright.lines import Rules
from voicewright.pairs import (best_pairs, check_pairs, cost_of_pairs, firsts, follows, keeps_pairs, may_pair,
                               pair_cost, pair_heights, passed, passes)

WHITE = (60, 62, 64, 65, 67, 69, 71, 72)
GIVENS = [(60,), (60, 62), (65, 64), (60, 64, 62), (60, 62, 60), (67, 65, 64), (62, 60, 60)]
SETTINGS = [(9, True), (4, True), (2, True), (9, False), (5, False)]


def cases():
    for given in GIVENS:
        for leap, above in SETTINGS:
            notes = WHITE if above else tuple(note - 7 for note in WHITE)
            yield given, Rules(notes, leap, above=above), oracle.all_pairs(given, notes, leap, above)


def back(line):
    """A line from its end back, the first notes ahead of their second ones."""
    return [line[-1]] + [tuple(line[k:k + 2]) for k in range(len(line) - 3, -1, -2)]


class AllPairs(unittest.TestCase):
    def test_passes(self):
        for before, here, after in itertools.product(range(60, 67), repeat=3):
            steps = (here - before, after - here)
            wanted = all(step in (1, 2) for step in steps) or all(step in (-1, -2) for step in steps)
            self.assertIs(passes(before, here, after), wanted)

    def test_costs(self):
        self.assertEqual(pair_cost(60, 67, 65), 9)
        self.assertEqual(pair_cost(67, 64, 72), 11)
        self.assertEqual(cost_of_pairs((60, 67, 65, 64, 60)), 14)
        self.assertEqual(cost_of_pairs((60,)), 0)
        self.assertEqual(cost_of_pairs(()), 0)

    def test_may_pair(self):
        for leap, above in ((9, True), (4, True), (9, False)):
            rules = Rules(WHITE, leap, above=above)
            shift = 0 if above else -12
            for low_next in (58, 60, 62, 65):
                for first, second, after in itertools.product(range(59 + shift, 74 + shift), repeat=3):
                    # Sounds at both ends aside, these are the rules of a line of pairs against two notes.
                    moves = oracle.moves_well(60, low_next, first, after, leap)
                    moves = moves and oracle.moves_well(60, low_next, second, after, leap)
                    steps = (second - first, after - second)
                    by_steps = all(abs(step) in (1, 2) for step in steps) and steps[0] * steps[1] > 0
                    good = moves and first != second != after and abs(second - first) <= leap
                    good = good and oracle.stands(60, first, above) and oracle.stands(low_next, after, above)
                    good = good and (oracle.stands(60, second, above) or by_steps)
                    self.assertIs(may_pair(rules, 60, low_next, first, second, after), good)

    def test_keeps_pairs(self):
        for given, rules, lines in cases():
            kept = set(lines)
            for line in itertools.product(rules.notes, repeat=2 * len(given) - 1):
                self.assertIs(keeps_pairs(given, line, rules), line in kept)
                if line in kept:
                    self.assertEqual(cost_of_pairs(line), oracle.half_steps(line))

    def test_other_lengths_and_notes(self):
        rules = Rules(WHITE)
        line = best_pairs((60, 62, 60), rules)
        self.assertIs(keeps_pairs((60, 62, 60), line, rules), True)
        self.assertIs(keeps_pairs((60, 62, 60), line[:-1], rules), False)
        self.assertIs(keeps_pairs((60, 62, 60), line + (60,), rules), False)
        self.assertIs(keeps_pairs((60, 62, 60), (), rules), False)
        few = Rules([note for note in WHITE if note != line[1]])
        self.assertIs(keeps_pairs((60, 62, 60), line, few), False)

    def test_best_pairs(self):
        none = some = 0
        for given, rules, lines in cases():
            if lines:
                some += 1
                low, _, best = min((oracle.half_steps(line), back(line), line) for line in lines)
                line = best_pairs(given, rules)
                self.assertEqual(line, best)
                self.assertIs(type(line), tuple)
                self.assertEqual(check_pairs(given, line, rules, pair_heights(given, rules)), low)
            else:
                none += 1
                with self.assertRaises(NoLine):
                    best_pairs(given, rules)
        self.assertTrue(none > 0 and some > 10)

    def test_as_good_lines_from_the_end_back(self):
        # The last three tell (first, second) from the notes from the end back.
        for given, notes in (((60, 64, 60), (66, 68, 69, 70, 71, 72, 73, 75)),
                             ((64, 60, 60), (61, 63, 64, 69, 71, 72, 73, 75)),
                             ((60, 65, 67), (65, 66, 67, 68, 71, 72, 74, 76)),
                             ((65, 64, 67), (60, 65, 66, 69, 70, 72, 74, 76)),
                             ((65, 64, 64), (61, 63, 66, 68, 71, 72, 73, 74)),
                             ((62, 64, 67), (62, 64, 67, 69, 70, 72, 73, 76))):
            lines = oracle.all_pairs(given, notes)
            low = min(map(oracle.half_steps, lines))
            good = [line for line in lines if oracle.half_steps(line) == low]
            self.assertGreater(len(good), 1)
            self.assertEqual(best_pairs(given, Rules(notes)), min(good, key=back))

    def test_heights(self):
        for given, rules, lines in cases():
            table = pair_heights(given, rules)
            self.assertIs(type(table), tuple)
            self.assertEqual(len(table), len(given))
            wanted = {}
            for line in lines:
                cost = oracle.half_steps(line)
                wanted[line[-1]] = min(cost, wanted.get(line[-1], cost))
            self.assertEqual(table[-1], wanted)
            self.assertEqual(table[0], {note: 0 for note in rules.notes if rules.may_begin(given[0], note)})

    def test_heights_in_the_middle(self):
        rules = Rules(WHITE)
        table = pair_heights((60, 62, 60), rules)
        wanted = {}
        for first, second, after in itertools.product(WHITE, repeat=3):
            if oracle.perfect(60, first) and may_pair(rules, 60, 62, first, second, after):
                cost = pair_cost(first, second, after)
                wanted[after] = min(cost, wanted.get(after, cost))
        self.assertEqual(table[1], wanted)
        self.assertTrue(any(not oracle.perfect(62, note) for note in wanted))

    def test_follows(self):
        for given, rules, lines in cases():
            for place in range(1, len(given)):
                last = place == len(given) - 1
                for first in rules.notes:
                    found = [(second, after) for second in rules.notes for after in rules.notes
                             if may_pair(rules, given[place - 1], given[place], first, second, after)
                             and (not last or oracle.perfect(given[place], after))]
                    self.assertEqual(follows(given, place, first, rules), found)
        self.assertIs(type(follows((60, 62), 1, 60, Rules(WHITE))), list)

    def test_firsts_and_passed(self):
        self.assertEqual(firsts((60, 62, 64, 67, 65)), (60, 64, 65))
        self.assertEqual(firsts((60,)), (60,))
        self.assertEqual(firsts(()), ())
        self.assertEqual(passed((60, 62, 64, 67, 65, 64, 62)), (1, 5))
        self.assertEqual(passed((60, 64, 62, 60, 59)), (3,))
        self.assertEqual(passed((60, 62, 60)), ())
        self.assertEqual(passed([60]), ())
        self.assertEqual(passed(()), ())

    def test_passed_places_in_told_lines(self):
        seen = 0
        for given, rules, lines in cases():
            for line in lines[:50]:
                places = [k for k in range(1, len(line), 2)
                          if (line[k] - line[k - 1], line[k + 1] - line[k]) in
                          ((1, 1), (1, 2), (2, 1), (2, 2), (-1, -1), (-1, -2), (-2, -1), (-2, -2))]
                self.assertEqual(passed(line), tuple(places))
                seen += len(places)
        self.assertGreater(seen, 0)


class Edges(unittest.TestCase):
    def test_no_given_notes(self):
        rules = Rules(WHITE)
        self.assertEqual(pair_heights((), rules), ())
        self.assertEqual(best_pairs((), rules), ())
        self.assertIs(keeps_pairs((), (), rules), True)
        self.assertIs(keeps_pairs((), (60,), rules), False)
        self.assertEqual(check_pairs((), (), rules, ()), 0)
        with self.assertRaises(BadPaper):
            check_pairs((), (), rules, ({},))
        with self.assertRaises(BadLine):
            check_pairs((), (60,), rules, ())

    def test_one_given_note(self):
        rules = Rules(WHITE)
        self.assertEqual(pair_heights((60,), rules), ({60: 0, 67: 0, 72: 0},))
        self.assertEqual(best_pairs((60,), rules), (60,))
        self.assertEqual(check_pairs((60,), (67,), rules, ({60: 0, 67: 0, 72: 0},)), 0)
        with self.assertRaises(NoLine):
            best_pairs((61,), rules)

    def test_no_notes_to_be_had(self):
        with self.assertRaises(NoLine):
            best_pairs((60, 62), Rules(()))
        self.assertEqual(pair_heights((60, 62), Rules(())), ({}, {}))


class Papers(unittest.TestCase):
    given = (60, 62, 60)

    def setUp(self):
        self.rules = Rules(WHITE)
        self.table = [dict(here) for here in pair_heights(self.given, self.rules)]
        self.line = best_pairs(self.given, self.rules)

    def refused(self, table):
        with self.assertRaises(BadPaper):
            check_pairs(self.given, self.line, self.rules, table)

    def test_steeper_or_left_out(self):
        for place, here in enumerate(self.table):
            for note in here:
                table = [dict(row) for row in self.table]
                table[place][note] += 1
                self.refused(table)
                del table[place][note]
                self.refused(table)

    def test_bare_other_lengths_and_lower(self):
        self.refused([{} for _ in self.given])
        for table in ([], self.table[:-1], self.table + [{}]):
            self.refused(table)
        self.refused([{note: height - 1 for note, height in here.items()} for here in self.table])

    def test_lines(self):
        lines = oracle.all_pairs(self.given, WHITE)
        low = min(oracle.half_steps(line) for line in lines)
        for line in lines:
            if oracle.half_steps(line) == low:
                self.assertEqual(check_pairs(self.given, line, self.rules, self.table), low)
            else:
                with self.assertRaises(BadPaper):
                    check_pairs(self.given, line, self.rules, self.table)
        for line in ((60, 60, 60, 60, 60), self.line[:-1], ()):
            with self.assertRaises(BadLine):
                check_pairs(self.given, line, self.rules, self.table)
        with self.assertRaises(BadPaper):
            check_pairs(self.given, (), self.rules, [])

    def test_what_is_handed_in_stays(self):
        copied = [dict(here) for here in self.table]
        with self.assertRaises(BadLine):
            check_pairs(self.given, [60, 60, 60, 60, 60], self.rules, self.table)
        self.assertEqual(check_pairs(self.given, list(self.line), self.rules, self.table), cost_of_pairs(self.line))
        self.assertEqual(self.table, copied)
