"""What the document promises over the whole program: times kept, refusals that change nothing, fields, kinds."""

import copy
import random
import unittest
from fractions import Fraction

from voicewright import (bars, beats, bells, canons, chords, courses, desks, errors, forms, grids, hands, keys, kept,
                         leads, lines, motives, notes, pairs, parts, players, scores, series, sets, steps, streams,
                         tempos, tunes)

GIVEN = (60, 62, 64, 62, 60)
SCALE = (60, 62, 64, 65, 67, 69, 71, 72, 74, 76)


def part(worth):
    return (worth.numerator, worth.denominator)


class Times(unittest.TestCase):
    def tune(self, dice):
        rows = []
        for _ in range(dice.randrange(1, 9)):
            length = Fraction(dice.randrange(1, 9), dice.choice((4, 8, 16)))
            rows.append((part(length), dice.choice((None, 60, 62, 64))))
        return tuple(rows)

    def test_tunes_as_beginnings_and_ends(self):
        dice = random.Random(41)
        for _ in range(60):
            tune = self.tune(dice)
            sounding = tunes.timed(tune)
            again = streams.notes_of(streams.events(sounding))
            self.assertEqual(again, sounding)
            self.assertEqual(tunes.filled(tunes.untimed(again), tunes.long(tune)), tunes.joined(tune))
            moved = streams.moved_stream(streams.events(sounding), (3, 7))
            self.assertEqual(streams.from_steps(streams.steps_between(moved)), moved)
            self.assertEqual(tunes.read_tune(tunes.told(tune)), tune)

    def test_tunes_played_by_players(self):
        dice = random.Random(42)
        for _ in range(40):
            voices = [tunes.timed(self.tune(dice)) for _ in range(3)]
            together = [row for voice in voices for row in voice]
            played = players.players_of(together)
            many = players.fewest(together)
            self.assertLessEqual(many, 3)
            if together:
                time = players.fullest(together)[0]
                self.assertEqual(players.check_players(together, played, time), many)
            told = [players.part_of(together, played, player) for player in range(many)]
            self.assertEqual(sorted(row for rows in told for row in rows), sorted(together))
            for rows in told:
                self.assertEqual(tunes.timed(tunes.untimed(rows)), rows)

    def test_tunes_cut_at_bars_and_timed(self):
        dice = random.Random(43)
        lengths = bars.written((1, 1), 6, 1)
        for _ in range(40):
            tune = self.tune(dice)
            meter = bars.Meter(dice.choice((2, 3, 4)), (1, 4))
            slow = tempos.Tempos([((0, 1), (1, 1)), *tempos.even_change((1, 2), (1, 1), (3, 5), 3), ((5, 1), (2, 7))])
            pieces = []
            for start, length, note in tunes.timed(tune):
                cuts = bars.cut_at_bars(meter, start, length)
                rows = bars.written_note(meter, start, length, lengths)
                self.assertEqual([parts.total(row) for row in rows], [much for _, much in cuts])
                pieces.extend((much, note) for _, much in cuts)
                end = parts.plus(start, length)
                lasting = parts.minus(slow.time_of(end), slow.time_of(start))
                spent = [parts.minus(slow.time_of(parts.plus(at, much)), slow.time_of(at)) for at, much in cuts]
                self.assertEqual(parts.total(spent), lasting)
            rests = [(length, note) for length, note in tune if note is None]
            self.assertEqual(tunes.long(pieces + rests), tunes.long(tune))

    def test_tunes_put_on_a_grid_keep_their_order(self):
        dice = random.Random(44)
        for _ in range(20):
            sounding = tunes.timed(self.tune(dice))
            starts = [start for start, _, _ in sounding]
            numbers = grids.on_grid(starts, (1, 16), 100)
            self.assertEqual(grids.moved_by(starts, (1, 16), numbers), (0, 1))
            self.assertEqual([parts.times((number, 1), (1, 16)) for number in numbers], starts)

    def test_cut_tunes_are_whole_together(self):
        dice = random.Random(45)
        for _ in range(40):
            tune = self.tune(dice)
            middle = part(Fraction(dice.randrange(20), 7))
            ahead = tunes.cut(tune, (0, 1), middle)
            behind = tunes.cut(tune, middle, (99, 1))
            self.assertEqual(parts.total([tunes.long(ahead), tunes.long(behind)]), tunes.long(tune))
            for time in [part(Fraction(k, 16)) for k in range(60)]:
                there = tunes.at(ahead, time) if parts.is_less(time, middle) else tunes.at(
                    behind, parts.minus(time, middle))
                self.assertEqual(there, tunes.at(tune, time))


def refusals():
    """Rows of (what is refused, by which error, all that is handed in and must stay)."""
    tune = [((1, 4), 60), ((1, 4), None), ((1, 2), 119)]
    kept_line = kept.Kept(GIVEN, lines.Rules(SCALE))
    bare = kept.Kept((60, 61), lines.Rules((60,)))
    desk = desks.Desk()
    desk.say("open major c4 c6")
    desk.say("given 0 0 c4 d4 c4")
    score = scores.Score([GIVEN, (67, 67, 67, 67, 67)])
    neck = hands.Neck((40, 45), 5)
    rules = lines.Rules(SCALE)
    table = [dict(here) for here in lines.heights(GIVEN, rules)]
    table[2].clear()
    form = forms.costs("abab")
    form[0, 4] = 9
    style = courses.Style([(0, "major")], [1], [])
    meter = bars.Meter(3, (1, 4))
    slow = tempos.Tempos([((0, 1), (1, 2))])
    return [
        (lambda: notes.check_note(121), errors.BadNote, ()),
        (lambda: notes.read_note("h4"), errors.BadText, ()),
        (lambda: keys.Key(12, "major"), errors.BadSize, ()),
        (lambda: parts.part(1, 0), errors.BadTime, ()),
        (lambda: lines.best_line((60, 61), lines.Rules((60,))), errors.NoLine, ()),
        (lambda: lines.check_heights(GIVEN, rules, table), errors.BadPaper, (table, rules)),
        (lambda: pairs.check_pairs(GIVEN, GIVEN, rules, [{}] * 5), errors.BadLine, (rules,)),
        (lambda: canons.overlap(GIVEN, GIVEN, -1), errors.BadSize, ()),
        (lambda: chords.chord(0, "none"), errors.NoSuch, ()),
        (lambda: leads.check_rows([1], []), errors.BadSize, ()),
        (lambda: courses.best_course(style, [61]), errors.NoLine, (style,)),
        (lambda: motives.all_motives(GIVEN, 0), errors.BadSize, ()),
        (lambda: beats.all_rows(3, 13), errors.BadSize, ()),
        (lambda: meter.place((-1, 1)), errors.BadTime, (meter,)),
        (lambda: slow.changed((1, 1), (0, 1)), errors.BadTime, (slow,)),
        (lambda: players.check_players([((0, 1), (1, 1), 60)], [], (0, 1)), errors.BadPaper, ()),
        (lambda: streams.notes_of([((0, 1), 0, 60)]), errors.NoSuch, ()),
        (lambda: kept_line.change(6, 0, [60]), errors.BadLine, (kept_line,)),
        (lambda: bare.line(), errors.NoLine, (bare,)),
        (lambda: sets.least_form([12]), errors.BadSize, ()),
        (lambda: series.form(range(12), "none", 0), errors.BadSize, ()),
        (lambda: grids.nearest((-1, 1), (1, 4)), errors.BadTime, ()),
        (lambda: grids.check_grid([(0, 1)], (1, 4), 3, [0], []), errors.BadPaper, ()),
        (lambda: score.with_line([60]), errors.BadLine, (score,)),
        (lambda: score.without(2), errors.BadSize, (score,)),
        (lambda: tunes.over(tune, 0), errors.BadNote, (tune,)),
        (lambda: tunes.stretched(tune, (0, 1)), errors.BadTime, (tune,)),
        (lambda: tunes.repeated(tune, -1), errors.BadSize, (tune,)),
        (lambda: tunes.read_tune("1/4:c5 x"), errors.BadText, ()),
        (lambda: forms.unfolded([["a", 1]]), errors.BadSize, ()),
        (lambda: forms.check_writing("abab", "abab", form), errors.BadPaper, (form,)),
        (lambda: hands.best_spots(neck, [39]), errors.NoLine, (neck,)),
        (lambda: neck.note((2, 0)), errors.BadSize, (neck,)),
        (lambda: bells.check_extent(3, []), errors.BadPaper, ()),
        (lambda: bells.rung([0, 1], [1]), errors.BadSize, ()),
        (lambda: desk.do("given 9 0 c4"), errors.BadLine, (desk,)),
        (lambda: desk.do("given 0 0 c-0"), errors.BadNote, (desk,)),
        (lambda: desks.Desk().do("line"), errors.NoSuch, ()),
        (lambda: desks.lines_of("0 x 1\n"), errors.BadStore, ()),
    ]


def inside(one):
    """All that an object holds, told so that it can be compared."""
    if hasattr(one, "__dict__"):
        return {name: inside(held) for name, held in vars(one).items()}
    return copy.deepcopy(one)


class Refusals(unittest.TestCase):
    def test_each_its_own_error_whatever_was_refused_ahead(self):
        dice = random.Random(46)
        rows = refusals()
        for _ in range(20):
            dice.shuffle(rows)
            for refused, error, handed in rows:
                before = [inside(one) for one in handed]
                with self.assertRaises(errors.MusicFault) as caught:
                    refused()
                self.assertIs(type(caught.exception), error)
                self.assertEqual([inside(one) for one in handed], before)

    def test_answers_are_alike_behind_refusals(self):
        for refused, error, _ in refusals():
            with self.assertRaises(error):
                refused()
        self.assertEqual(desks.Desk().say("open major c4 c6"), "0")
        self.assertEqual(lines.best_line(GIVEN, lines.Rules(SCALE)),
                         lines.best_line(list(GIVEN), lines.Rules(list(SCALE))))


class Fields(unittest.TestCase):
    def test_fields_right_after_an_object_is_created(self):
        rules = lines.Rules([64, 60, 60], 7, 2, 3, False)
        style = courses.Style(((0, "major"),), (2,), ((0, 0, 4),), 5)
        spelled = notes.Spelled(3, -1, 4)
        kept_line = kept.Kept([60, 62], rules)
        desk = desks.Desk()
        meter = bars.Meter(4, (2, 8), [2])
        for found, wanted in (
                ((rules.notes, rules.leap, rules.along, rules.repeat, rules.above), ((60, 64), 7, 2, 3, False)),
                ((style.chords, style.costs, style.moves, style.other), ([(0, "major")], [2], {(0, 0): 4}, 5)),
                ((spelled.letter, spelled.signs, spelled.octave), (3, -1, 4)),
                ((keys.Key(3, "minor").root, keys.Key(3, "minor").kind), (3, "minor")),
                ((kept_line.given, kept_line.done, len(kept_line.table)), ((60, 62), 2, 2)),
                ((desk.kept, desk.text, desk.many), (None, "", 0)),
                ((meter.beats, meter.length, meter.strong), (4, (1, 4), (0, 2))),
                (tempos.Tempos((((0, 1), (2, 4)),)).changes, [((0, 1), (1, 2))]),
                (scores.Score(([60], [64])).lines, [(60,), (64,)]),
                ((hands.Neck([40], 3).strings, hands.Neck([40], 3).places), ((40,), 3))):
            self.assertEqual(found, wanted)
        self.assertIs(kept_line.rules, rules)
        self.assertIs(type(kept_line.table), list)
        plain = lines.Rules([])
        self.assertEqual((plain.notes, plain.leap, plain.along, plain.repeat, plain.above), ((), 9, 1, 2, True))


class Promises(unittest.TestCase):
    def test_a_desk_tells_what_the_paper_shows(self):
        desk = desks.Desk()
        desk.say("open major c4 c6")
        desk.say("given 0 0 c4 f4 e4 d4 g4 f4 e4 c4")
        self.assertEqual(desk.say("check"), desk.say("cost"))
        line = desks.read_notes(desk.say("line").split())
        self.assertEqual(kept.worse_by(desk.kept, line), 0)
        self.assertIs(scores.Score([desk.kept.given, line]).is_clean(), True)
        tune = [((1, 4), note) for note in line]
        self.assertEqual(steps.span(line), max(line) - min(line))
        self.assertEqual(tunes.read_tune(tunes.told(tune)), tuple(tune))

    def test_forms_of_what_comes_again(self):
        tune = GIVEN + (67, 65, 64, 62, 60) + GIVEN + GIVEN
        row = forms.form_of(forms.phrases_of(tune, 5))
        self.assertEqual(row, "abaa")
        self.assertEqual(forms.unfolded(forms.shortest(row * 3)), row * 3)
        self.assertEqual(motives.places_of(GIVEN, tune), (0, 10, 15))

    def test_chords_as_sets(self):
        for name, row in chords.CHORDS:
            lot = chords.classes(chords.chord(5, name))
            self.assertEqual(sets.least_form(lot), sets.least_form(row))
            self.assertIs(sets.within_kind(row, range(12)), True)
        self.assertEqual(sets.least_form(chords.chord(2, "major")), sets.least_form(chords.chord(9, "minor")))


if __name__ == "__main__":
    unittest.main()
