import itertools
import unittest

import oracle
from voicewright.errors import BadLine, BadPaper, NoLine
from voicewright.lines import (LEAP, Rules, best_line, check_heights, check_line, check_none, first_spots, heights,
                               how_many, keeps, line_cost, may_follow, source)

WHITE = (60, 62, 64, 65, 67, 69, 71, 72)
GIVENS = [(60,), (60, 62), (60, 61), (61,), (60, 64, 62), (60, 62, 64, 60), (64, 62, 60, 62, 60), (60, 60, 65, 60), (67, 65, 60)]
SETTINGS = [(9, 1, 2, True), (4, 0, 0, True), (12, 5, 1, True), (9, 1, 2, False), (5, 3, 7, False), (2, 1, 2, True)]


def cases():
    for given in GIVENS:
        for leap, along, repeat, above in SETTINGS:
            notes = WHITE if above else tuple(note - 12 for note in WHITE)
            notes = notes[:6] if len(given) > 4 else notes
            lines = oracle.all_lines(given, notes, leap, above)
            yield given, Rules(notes, leap, along, repeat, above), lines


def cost_of(given, line, rules):
    return oracle.cost_of_line(given, line, rules.along, rules.repeat)


class TheRules(unittest.TestCase):
    def test_fields(self):
        rules = Rules([64, 60, 62, 60])
        self.assertEqual(LEAP, 9)
        self.assertEqual(rules.notes, (60, 62, 64))
        self.assertIs(type(rules.notes), tuple)
        self.assertEqual((rules.leap, rules.along, rules.repeat, rules.above), (9, 1, 2, True))
        rules = Rules((), 5, 3, 4, False)
        self.assertEqual((rules.notes, rules.leap, rules.along, rules.repeat, rules.above), ((), 5, 3, 4, False))
        rules = Rules(notes=(1,), above=False, repeat=7, along=6, leap=5)
        self.assertEqual((rules.notes, rules.leap, rules.along, rules.repeat, rules.above), ((1,), 5, 6, 7, False))

    def test_notes_handed_in_stay(self):
        notes = [64, 60]
        Rules(notes)
        self.assertEqual(notes, [64, 60])

    def test_sounds_and_beginnings(self):
        above, below = Rules(WHITE), Rules(WHITE, above=False)
        for low in range(58, 64):
            for high in range(40, 90):
                self.assertIs(above.sounds(low, high), high >= low and oracle.together(low, high))
                self.assertIs(below.sounds(low, high), high <= low and oracle.together(low, high))
        for low, high in ((60, 60), (60, 67), (60, 72), (60, 79)):
            self.assertIs(above.may_begin(low, high), True)
            self.assertIs(below.may_begin(high, low), True)
        for low, high in ((60, 64), (60, 65), (60, 69), (60, 61)):
            self.assertIs(above.may_begin(low, high), False)
            self.assertIs(below.may_begin(high, low), False)

    def test_a_line_does_not_begin_on_the_wrong_side(self):
        self.assertIs(Rules(WHITE).may_begin(67, 60), False)
        self.assertIs(Rules(WHITE, above=False).may_begin(60, 67), False)

    def test_moves(self):
        for leap in (2, 4, 9, 12):
            rules = Rules(WHITE, leap)
            for low_next, high, high_next in itertools.product(range(55, 66), range(60, 75), range(55, 80)):
                self.assertIs(rules.may_move(60, low_next, high, high_next),
                              oracle.moves_well(60, low_next, high, high_next, leap))

    def test_costs(self):
        rules = Rules(WHITE, 9, 10, 100)
        self.assertEqual(rules.cost(60, 62, 67, 64), 3)
        self.assertEqual(rules.cost(60, 60, 67, 71), 4)
        self.assertEqual(rules.cost(60, 62, 64, 65), 11)
        self.assertEqual(rules.cost(60, 62, 64, 66), 12)
        self.assertEqual(rules.cost(62, 60, 71, 67), 14)
        self.assertEqual(rules.cost(60, 62, 67, 67), 100)
        self.assertEqual(rules.cost(60, 60, 67, 67), 100)

    def test_turns(self):
        rules = Rules(WHITE)
        for before, here, after in itertools.product(range(60, 71), repeat=3):
            leap = abs(here - before) > 4
            same_way = (here - before) * (after - here) > 0
            self.assertIs(rules.turns(before, here, after), not (leap and same_way))


class AllLines(unittest.TestCase):
    def test_keeps_and_costs(self):
        for given, rules, lines in cases():
            kept = set(lines)
            for line in itertools.product(rules.notes, repeat=len(given)):
                self.assertIs(keeps(given, line, rules), line in kept)
                if line in kept:
                    self.assertEqual(line_cost(given, line, rules), cost_of(given, line, rules))

    def test_how_many(self):
        for given, rules, lines in cases():
            self.assertEqual(how_many(given, rules), len(lines))

    def test_best_line(self):
        none = some = 0
        for given, rules, lines in cases():
            if lines:
                some += 1
                best = min((cost_of(given, line, rules), line[::-1]) for line in lines)
                line = best_line(given, rules)
                self.assertEqual(line, best[1][::-1])
                self.assertIs(type(line), tuple)
                self.assertEqual(check_line(given, line, rules, heights(given, rules)), best[0])
            else:
                none += 1
                with self.assertRaises(NoLine):
                    best_line(given, rules)
        self.assertTrue(none > 3 and some > 10)

    def test_as_good_lines_from_the_end_back(self):
        # Nothing costs here but the way gone, so many lines are as good and only the order tells one.
        given = (60, 62, 60, 62, 60)
        rules = Rules(range(60, 76), 9, 0, 0)
        lines = oracle.all_lines(given, rules.notes)
        best = min((cost_of(given, line, rules), line[::-1]) for line in lines)
        self.assertGreater(len([line for line in lines if cost_of(given, line, rules) == best[0]]), 1)
        self.assertEqual(best_line(given, rules), best[1][::-1])

    def test_heights(self):
        for given, rules, lines in cases():
            table = heights(given, rules)
            self.assertIs(type(table), tuple)
            self.assertEqual(len(table), len(given))
            wanted = [{} for _ in given]
            for place in range(len(given)):
                for line in beginnings(given[:place + 1], rules, place == len(given) - 1):
                    spot = (line[-2] if place > 0 else None, line[-1])
                    cost = cost_of(given[:place + 1], line, rules)
                    wanted[place][spot] = min(cost, wanted[place].get(spot, cost))
            self.assertEqual(list(table), wanted)

    def test_first_spots(self):
        rules = Rules(WHITE)
        self.assertEqual(first_spots((60, 62), rules), {(None, 60): 0, (None, 67): 0, (None, 72): 0})
        self.assertEqual(first_spots((65,), Rules(WHITE, above=False)), {(None, 65): 0})
        self.assertEqual(first_spots((61,), rules), {})

    def test_may_follow(self):
        for given, rules, lines in cases():
            for place in range(1, len(given)):
                last = place == len(given) - 1
                ahead = [(None, note) for note in rules.notes]
                if place > 1:
                    ahead = list(itertools.product(rules.notes, repeat=2))
                for spot, note in itertools.product(ahead, rules.notes):
                    good = oracle.stands(given[place], note, rules.above)
                    good = good and (not last or oracle.perfect(given[place], note))
                    good = good and oracle.moves_well(given[place - 1], given[place], spot[1], note, rules.leap)
                    if spot[0] is not None and abs(spot[1] - spot[0]) > 4:
                        good = good and (spot[1] - spot[0]) * (note - spot[1]) <= 0
                    self.assertIs(may_follow(given, place, spot, note, rules), good)

    def test_a_note_not_to_be_had_may_not_follow(self):
        rules = Rules((60, 64, 67))
        self.assertIs(may_follow((60, 60, 60), 1, (None, 60), 64, rules), True)
        self.assertIs(may_follow((60, 60, 60), 1, (None, 60), 63, rules), False)

    def test_source(self):
        for given, rules, lines in cases():
            table = heights(given, rules)
            for place in range(1, len(given)):
                for spot, height in table[place].items():
                    found = []
                    for before, ahead in table[place - 1].items():
                        if before[1] == spot[0] and may_follow(given, place, before, spot[1], rules):
                            move = rules.cost(given[place - 1], given[place], before[1], spot[1])
                            if ahead + move == height:
                                found.append(before)
                    self.assertEqual(source(given, rules, table, place, spot), min(found))


    def test_a_source_turns_behind_a_leap(self):
        given, rules = (60, 60, 60), Rules((60, 67, 72))
        table = ({(None, 60): 0, (None, 72): 0}, {(60, 67): 7, (72, 67): 7}, {(67, 72): 12})
        self.assertEqual(source(given, rules, table, 2, (67, 72)), (72, 67))


def beginnings(given, rules, whole):
    """All rows of notes that keep the rules so far; the last one need be perfect only where it is the end."""
    for line in itertools.product(rules.notes, repeat=len(given)):
        cut = [(low, note) for low, note in zip(given, line)]
        if not all(oracle.stands(low, note, rules.above) for low, note in cut):
            continue
        if not oracle.perfect(*cut[0]) or (whole and not oracle.perfect(*cut[-1])):
            continue
        good = True
        for k in range(1, len(line)):
            good = good and oracle.moves_well(given[k - 1], given[k], line[k - 1], line[k], rules.leap)
            if k > 1 and abs(line[k - 1] - line[k - 2]) > 4:
                good = good and (line[k - 1] - line[k - 2]) * (line[k] - line[k - 1]) <= 0
        if good:
            yield line


class Edges(unittest.TestCase):
    def test_no_given_notes(self):
        for notes in (WHITE, ()):
            rules = Rules(notes)
            self.assertIs(keeps((), (), rules), True)
            self.assertEqual(line_cost((), (), rules), 0)
            self.assertEqual(heights((), rules), ())
            self.assertEqual(best_line((), rules), ())
            self.assertEqual(how_many((), rules), 1)
            self.assertEqual(check_heights((), rules, ()), 0)
            self.assertEqual(check_line((), (), rules, ()), 0)
            self.assertEqual(first_spots((), rules), {})
            with self.assertRaises(BadPaper):
                check_none((), rules, ())

    def test_no_notes_to_be_had(self):
        rules = Rules(())
        self.assertEqual(heights((60, 62), rules), ({}, {}))
        self.assertEqual(how_many((60, 62), rules), 0)
        self.assertIsNone(check_heights((60, 62), rules, ({}, {})))
        self.assertEqual(check_none((60, 62), rules, ({}, {})), 0)
        with self.assertRaises(NoLine):
            best_line((60, 62), rules)

    def test_another_length(self):
        rules = Rules(WHITE)
        for line in ((60,), (), (67, 67, 67)):
            self.assertIs(keeps((60, 60), line, rules), False)
            with self.assertRaises(BadLine):
                line_cost((60, 60), line, rules)
            with self.assertRaises(BadPaper):
                check_line((60, 60), line, rules, heights((60, 60), rules))

    def test_a_note_not_to_be_had(self):
        self.assertIs(keeps((60, 60), (67, 67), Rules((60, 67))), True)
        self.assertIs(keeps((60, 60), (67, 67), Rules((60, 72))), False)

    def test_what_is_handed_in_stays(self):
        given, rules = [60, 62, 64, 60], Rules(WHITE)
        table = heights(given, rules)
        copied = [dict(here) for here in table]
        line = list(best_line(given, rules))
        self.assertEqual(check_line(given, line, rules, list(table)), line_cost(given, line, rules))
        with self.assertRaises(BadPaper):
            check_line(given, [67, 65, 67, 67], rules, table)
        with self.assertRaises(BadPaper):
            check_none(given, rules, table)
        self.assertEqual(list(table), copied)
        self.assertEqual((given, rules.notes), ([60, 62, 64, 60], WHITE))


class Papers(unittest.TestCase):
    given = (60, 62, 64, 60)

    def setUp(self):
        self.rules = Rules(WHITE)
        self.table = [dict(here) for here in heights(self.given, self.rules)]
        self.line = best_line(self.given, self.rules)

    def refused(self, table):
        with self.assertRaises(BadPaper):
            check_heights(self.given, self.rules, table)
        with self.assertRaises(BadPaper):
            check_line(self.given, self.line, self.rules, table)
        with self.assertRaises(BadPaper):
            check_none(self.given, self.rules, table)

    def test_taken(self):
        self.assertEqual(check_heights(self.given, self.rules, self.table), min(self.table[-1].values()))

    def test_steeper_or_left_out(self):
        for place, here in enumerate(self.table):
            for spot in here:
                table = [dict(row) for row in self.table]
                table[place][spot] += 1
                self.refused(table)
                del table[place][spot]
                self.refused(table)

    def test_bare_and_of_another_length(self):
        self.refused([{} for _ in self.given])
        for table in ([], self.table[:-1], self.table + [{}], [{}] + self.table):
            self.refused(table)

    def test_lower_heights(self):
        # Heights that nothing is higher than are taken, but a line must come at the height told.
        lower = [dict(here) for here in self.table]
        lower[0] = {spot: -1 for spot in lower[0]}
        with self.assertRaises(BadPaper):
            check_heights(self.given, self.rules, lower)
        lower = [{spot: height - 1 for spot, height in here.items()} for here in self.table]
        self.assertEqual(check_heights(self.given, self.rules, lower), min(self.table[-1].values()) - 1)
        with self.assertRaises(BadPaper):
            check_line(self.given, self.line, self.rules, lower)

    def test_a_beginning_at_nought_or_less(self):
        table = [{spot: 0 for spot in self.table[0]}] + self.table[1:]
        self.assertEqual(check_heights(self.given, self.rules, table), min(self.table[-1].values()))
        self.assertEqual(check_heights((60,), self.rules, ({(None, 60): -3, (None, 67): 0, (None, 72): 0},)), -3)
        with self.assertRaises(BadPaper):
            check_heights((60,), self.rules, ({(None, 60): 1, (None, 67): 0, (None, 72): 0},))

    def test_spots_more_lead_on(self):
        table = [dict(here) for here in self.table]
        table[0][(None, 64)] = -50
        with self.assertRaises(BadPaper):
            check_heights(self.given, self.rules, table)

    def test_worse_lines(self):
        lines = oracle.all_lines(self.given, WHITE)
        low = min(cost_of(self.given, line, self.rules) for line in lines)
        good = 0
        for line in lines:
            if cost_of(self.given, line, self.rules) == low:
                self.assertEqual(check_line(self.given, line, self.rules, self.table), low)
                good += 1
            else:
                with self.assertRaises(BadPaper):
                    check_line(self.given, line, self.rules, self.table)
        self.assertTrue(0 < good < len(lines))
        for line in ((60, 62, 64, 60), (67, 69, 71, 72), (61, 62, 64, 60)):
            if line not in lines:
                with self.assertRaises(BadPaper):
                    check_line(self.given, line, self.rules, self.table)

    def test_no_line(self):
        seen = set()
        for given, notes in (((60, 61, 62), (60, 67, 72)), ((61, 60), (60, 72)), ((60, 62, 60), (60, 64, 65)),
                             ((60, 60, 61), (60, 67)), ((60, 62, 64, 61), (60, 62, 64, 67))):
            rules = Rules(notes)
            self.assertEqual(oracle.all_lines(given, notes), [])
            table = heights(given, rules)
            self.assertIsNone(check_heights(given, rules, table))
            first = [place for place in range(len(given))
                     if not list(beginnings(given[:place + 1], rules, place == len(given) - 1))][0]
            self.assertEqual(check_none(given, rules, table), first)
            seen.add(first)
            with self.assertRaises(NoLine):
                best_line(given, rules)
            with self.assertRaises(BadPaper):
                check_line(given, given, rules, table)
        self.assertGreater(len(seen), 2)

    def test_none_is_not_shown_where_a_line_keeps_all(self):
        with self.assertRaises(BadPaper):
            check_none(self.given, self.rules, self.table)
        with self.assertRaises(BadPaper):
            check_none(self.given, self.rules, self.table[:-1] + [{}])
