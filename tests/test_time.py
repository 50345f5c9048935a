"""The main promise for time: whatever tempos and bars, each note sounds in its exact time, by the fewest players."""

import random
import unittest
from fractions import Fraction

from voicewright.bars import Meter, cut_at_bars, written, written_note
from voicewright.parts import minus, total
from voicewright.players import check_players, fewest, fullest, players_of
from voicewright.streams import events, notes_of
from voicewright.tempos import Tempos, even_change


class Exact(unittest.TestCase):
    def test_notes_of_bars_in_their_times(self):
        dice = random.Random(23)
        lengths = written((1, 1), 5, 1)
        slow = Tempos([((0, 1), (1, 1)), *even_change((3, 1), (1, 1), (5, 3), 4), ((9, 1), (2, 7))])
        for _ in range(30):
            meter = Meter(dice.choice((2, 3, 4, 5)), (1, dice.choice((2, 4, 8))))
            beats = [((dice.randrange(60), 16), (dice.randrange(1, 40), 16), 60 + k) for k in range(8)]
            notes = []
            for start, length, note in beats:
                pieces = cut_at_bars(meter, start, length)
                tied_ones = [one for row in written_note(meter, start, length, lengths) for one in row]
                self.assertEqual(Fraction(*total(tied_ones)), Fraction(*length))
                begin = slow.time_of(start)
                end = begin
                for at, much in pieces:
                    self.assertEqual(slow.time_of(at), end)
                    end = slow.time_of((Fraction(*at) + Fraction(*much)).as_integer_ratio())
                notes.append((begin, minus(end, begin), note))
                self.assertEqual(slow.beat_at(begin), Fraction(*start).as_integer_ratio())
            self.assertEqual(sorted(notes_of(events(notes))), sorted(notes))
            self.assertEqual(check_players(notes, players_of(notes), fullest(notes)[0]), fewest(notes))
