import random
import unittest

import oracle
from voicewright.desks import (BASE, FIGURES, WIDE, Desk, done_again, figure_of, lines_of, number, read_notes,
                               told_note, told_notes)
from voicewright.errors import (BadLine, BadNote, BadPaper, BadSize, BadStore, BadText, BadTime, MusicFault, NoLine,
                                NoSuch)
from voicewright.kept import Kept
from voicewright.keys import Key

OPEN = "open major c4 c6"
NOTES = "given 0 0 c4 d4 e4 d4 c4"
ASKED = ("line", "given", "cost", "count", "check", "canons 3 12")


def figure(text):
    """The figure by the document's words."""
    plain = sum(ord(sign) for sign in text)
    weighed = sum(ord(sign) * place for place, sign in enumerate(text, start=1))
    return plain % 2000003 * 9973 + weighed % 9973


def row(place, line):
    body = str(place) + " " + line
    return body + " " + str(figure(body)) + "\n"


def desk_of(*lines):
    desk = Desk()
    for line in lines:
        desk.do(line)
    return desk


def shown(desk):
    kept = desk.kept
    inside = None if kept is None else (kept.given, kept.heights(), kept.done, kept.rules.notes)
    return (inside, desk.text, desk.many)


def answers(desk):
    return [desk.say(line) for line in ASKED]


class Words(unittest.TestCase):
    def test_names(self):
        self.assertEqual((FIGURES, BASE, WIDE), ("0123456789", 9973, 2000003))

    def test_number(self):
        for word, worth in (("0", 0), ("7", 7), ("12", 12), ("007", 7), ("999", 999)):
            self.assertEqual(number(word), worth)
        for word in ("", "1000", "0001", "-1", "+1", "1a", " 1", "1_0", "\u0661", "\u00b2"):
            with self.assertRaises(BadText):
                number(word)

    def test_notes(self):
        self.assertEqual(read_notes(["c4", "c#4", "d-4", "b##3"]), [48, 49, 49, 49])
        self.assertEqual(read_notes(()), [])
        self.assertEqual(told_note(49), "c#4")
        self.assertEqual(told_notes((48, 58, 0)), "c4 a#4 c0")
        self.assertEqual(told_notes([]), "")
        for words in (["c4", "h4"], ["c"], [""]):
            with self.assertRaises(BadText):
                read_notes(words)
        for words in (["c-0"], ["c4", "b##9"]):
            with self.assertRaises(BadNote):
                read_notes(words)
        for note in (-1, 121):
            with self.assertRaises(BadNote):
                told_note(note)
            with self.assertRaises(BadNote):
                told_notes([48, note])

    def test_figure(self):
        self.assertEqual(figure_of(""), 0)
        self.assertEqual(figure_of("a"), 97 * 9973 + 97)
        self.assertEqual(figure_of("ab"), 195 * 9973 + 293)
        for text in ("0 " + OPEN, "1 " + NOTES, "z" * 20000, "ab" * 999, " "):
            self.assertEqual(figure_of(text), figure(text))
        self.assertNotEqual(figure_of("ab"), figure_of("ba"))


class Answers(unittest.TestCase):
    def test_fields(self):
        desk = Desk()
        self.assertIsNone(desk.kept)
        self.assertEqual((desk.text, desk.many), ("", 0))

    def test_open(self):
        desk = Desk()
        self.assertEqual(desk.say(OPEN), "0")
        self.assertIsInstance(desk.kept, Kept)
        self.assertIs(desk.here(), desk.kept)
        self.assertEqual(desk.kept.given, ())
        self.assertEqual(desk.kept.rules.notes, Key(0, "major").between(48, 72))
        self.assertEqual((desk.kept.rules.leap, desk.kept.rules.along, desk.kept.rules.repeat, desk.kept.rules.above),
                         (9, 1, 2, True))
        self.assertEqual(desk.say("open minor b-3 a4"), "0")
        self.assertEqual(desk.kept.rules.notes, Key(10, "minor").between(46, 57))
        self.assertEqual((desk.many, answers(desk)), (2, ["", "", "0", "1", "0", desk.say("canons 3 12")]))

    def test_ranges(self):
        for low, high in (("c4", "c4"), ("d4", "c4"), ("c4", "c#7"), ("c0", "c9"), ("c4", "b#3"), ("c4", "d--4")):
            desk = Desk()
            self.assertEqual(desk.say(f"open major {low} {high}"), "error: size")
            self.assertEqual(shown(desk), (None, "", 0))
        for low, high in (("c4", "c#4"), ("c4", "c7"), ("b#3", "d-4")):
            self.assertEqual(Desk().say(f"open minor {low} {high}"), "0")

    def test_begun_again(self):
        desk = desk_of(OPEN, NOTES)
        self.assertEqual(desk.say("open minor a3 a5"), "0")
        self.assertEqual(desk.say("given"), "")
        self.assertEqual(desk.many, 3)

    def test_ordinary(self):
        desk = desk_of(OPEN)
        ways = oracle.all_lines((48, 50, 52, 50, 48), Key(0, "major").between(48, 72))
        costs = sorted(oracle.cost_of_line((48, 50, 52, 50, 48), way, 1, 2) for way in ways)
        self.assertEqual(desk.say(NOTES), str(costs[0]))
        self.assertEqual(desk.say("given"), "c4 d4 e4 d4 c4")
        self.assertEqual(desk.say("cost"), str(costs[0]))
        self.assertEqual(desk.say("check"), str(costs[0]))
        self.assertEqual(desk.say("count"), str(len(ways)))
        best = min((way for way in ways if oracle.cost_of_line((48, 50, 52, 50, 48), way, 1, 2) == costs[0]),
                   key=lambda way: way[::-1])
        self.assertEqual(desk.say("line"), told_notes(best))

    def test_canons(self):
        desk = desk_of(OPEN, NOTES)
        tune = (48, 50, 52, 50, 48)
        for most, furthest in ((0, 5), (1, 0), (2, 12), (7, 3)):
            wanted = [f"{delay}:{shift}" for delay in range(1, most + 1) for shift in range(-furthest, furthest + 1)
                      if oracle.tune_keeps(tune, delay, shift)]
            self.assertEqual(desk.say(f"canons {most} {furthest}"), " ".join(wanted))
        self.assertEqual(desk.say("canons 1 7"), "1:-6 1:6")

    def test_changes_by_chance(self):
        dice = random.Random(27)
        desk = desk_of("open major c4 g5")
        given = []
        for _ in range(60):
            place = dice.randrange(len(given) + 1)
            many = dice.randrange(min(2, len(given) - place) + 1)
            notes = [dice.choice((48, 50, 52, 53, 55)) for _ in range(dice.randrange(3 if len(given) < 6 else 1))]
            given[place:place + many] = notes
            answer = desk.say(f"given {place} {many} " + told_notes(notes))
            anew = Kept(given, desk.kept.rules)
            self.assertEqual(answer, "none" if anew.cost() is None else str(anew.cost()))
            self.assertEqual(desk.say("given"), told_notes(given))
            self.assertEqual(desk.say("cost"), answer)
            if anew.cost() is None:
                self.assertEqual((desk.say("line"), desk.say("check"), desk.say("count")),
                                 ("error: none", "error: none", "0"))
            else:
                self.assertEqual((desk.say("line"), desk.say("check")), (told_notes(anew.line()), answer))
        self.assertEqual(desk.many, 61)

    def test_no_line(self):
        desk = desk_of("open major c4 c#4")
        self.assertEqual(desk.say("given 0 0 c4 b4"), "none")
        self.assertEqual([desk.say(word) for word in ("line", "given", "cost", "count", "check")],
                         ["error: none", "c4 b4", "none", "0", "error: none"])
        self.assertEqual(desk.many, 2)
        self.assertEqual(desk.say("given 1 1"), "0")

    def test_blanks(self):
        desk = desk_of("  open   major c4\tc6 ")
        self.assertEqual(desk.say(" given 0 0   c4 "), "0")
        self.assertEqual(desk.text, row(0, OPEN) + row(1, "given 0 0 c4"))


class Refused(unittest.TestCase):
    def check_refused(self, desk, line, word):
        before = shown(desk)
        self.assertEqual(desk.say(line), "error: " + word, line)
        self.assertEqual(shown(desk), before)
        kinds = {"text": BadText, "note": BadNote, "line": BadLine, "none": NoLine, "size": BadSize, "time": BadTime,
                 "paper": BadPaper, "no such": NoSuch}
        with self.assertRaises(kinds[word]):
            desk.do(line)
        self.assertEqual(shown(desk), before)

    def test_text(self):
        for desk in (Desk(), desk_of(OPEN, NOTES)):
            for line in ("", "   ", "opens", "Open major c4 c6", "open", "open major", "open major c4", OPEN + " c7",
                         "open dorian c4 c6", "open Major c4 c6", "open dorian c-0 c6", "open major h4 c6",
                         "open major c4 c", "open major c4 6", "line x", "cost 1", "count 0", "check c4", "given 0",
                         "given x 0 c4", "given 0 x c4", "given -1 0 c4", "given 0000 0 c4", "given 0 1000",
                         "given x y h4", "canons", "canons 1", "canons 1 2 3", "canons x 1", "canons 1 -1",
                         "canons 1000 1", "error", "1", "c4", "line\u00e4"):
                self.check_refused(desk, line, "text")

    def test_notes(self):
        for desk in (Desk(), desk_of(OPEN, NOTES)):
            for line in ("open major c-0 c6", "open minor c4 b##9", "open major c-0 h6"):
                self.check_refused(desk, line, "note")
        self.check_refused(Desk(), "open major h0 c-0", "text")
        desk = desk_of(OPEN, NOTES)
        self.check_refused(desk, "given 0 0 c4 h4", "text")
        self.check_refused(desk, "given 0 0 c4 b##9", "note")
        self.check_refused(desk, "given 0 0 b##9 h4", "note")
        self.check_refused(desk, "given 99 0 h4", "text")
        self.check_refused(desk, "given 99 0 c-0", "note")

    def test_nothing_is_begun(self):
        desk = Desk()
        for line in ("line", "given", "cost", "count", "check", "canons 3 12", "given 0 0", "given 0 0 c4",
                     "given 0 0 h4", "given 0 0 c-0", "given 9 9"):
            self.check_refused(desk, line, "no such")
        with self.assertRaises(NoSuch):
            desk.here()
        for word in ("line", "given", "cost", "count", "check"):
            with self.assertRaises(NoSuch):
                desk.answer(word)

    def test_lines(self):
        desk = desk_of(OPEN, NOTES)
        for line in ("given 6 0", "given 5 1", "given 0 6 c4", "given 3 3", "given 999 0 c4", "given 0 999"):
            self.check_refused(desk, line, "line")

    def test_none(self):
        desk = desk_of("open major c4 c#4", "given 0 0 c4 b4")
        self.check_refused(desk, "line", "none")
        self.check_refused(desk, "check", "none")

    def test_sizes(self):
        for desk in (Desk(), desk_of(OPEN, NOTES)):
            for line in ("open major c4 c4", "open minor c6 c4", "open major c4 c#7"):
                self.check_refused(desk, line, "size")

    def test_papers(self):
        desk = desk_of(OPEN, NOTES)
        spot = sorted(desk.kept.table[2])[0]
        desk.kept.table[2][spot] += 50
        self.check_refused(desk, "check", "paper")

    def test_times(self):
        class Late(Desk):
            def answer(self, word):
                raise BadTime("late")

        self.check_refused(Late(), "cost", "time")


class Written(unittest.TestCase):
    def test_rows(self):
        desk = Desk()
        wanted = ""
        deeds = (OPEN, NOTES, "given 1 1", "given 0 0", "given 000 00 b#3", "open minor a3 a4", "given 0 0 c4 d4 e4")
        for place, line in enumerate(deeds):
            self.assertEqual(desk.say("given 77 0 c4")[:6], "error:")
            desk.say(line)
            wanted += row(place, line)
            for asked in ASKED + ("foo", "given 88 0", "open major c4 c4"):
                desk.say(asked)
            self.assertEqual((desk.text, desk.many), (wanted, place + 1))
        self.assertEqual(lines_of(desk.text), deeds)

    def test_written(self):
        desk = desk_of(OPEN)
        self.assertEqual(desk.written(["given", "0", "0"]), "0")
        self.assertEqual((desk.text, desk.many), (row(0, OPEN) + row(1, "given 0 0"), 2))

    def test_lines_of(self):
        text = row(0, OPEN) + row(1, NOTES)
        self.assertEqual(lines_of(text), (OPEN, NOTES))
        self.assertEqual(lines_of(""), ())
        for end in range(len(text) + 1):
            whole = text[:end].count("\n")
            self.assertEqual(lines_of(text[:end]), (OPEN, NOTES)[:whole])

    def test_what_is_not_whole(self):
        good = row(0, OPEN) + row(1, NOTES)
        for k in range(len(good) - 1):
            for sign in ("0", "c", " ", "\n", "x"):
                text = good[:k] + sign + good[k + 1:]
                if text != good and k < len(row(0, OPEN)) - 1:
                    with self.assertRaises(BadStore):
                        lines_of(text)
                    with self.assertRaises(BadStore):
                        done_again(text)
        for text in ("\n", " \n", "0\n", row(1, OPEN), row(0, OPEN) + row(0, NOTES), row(0, OPEN) + row(2, NOTES),
                     "\n" + good, good + "\n", good.replace("\n", "\n\n"), good.replace(" c6", ""), "x" + good,
                     row(0, OPEN)[1:], row("00", OPEN), row(0, OPEN).replace("\n", "x\n"), row("", OPEN),
                     "0 " + OPEN + " 0" + str(figure("0 " + OPEN)) + "\n"):
            with self.assertRaises(BadStore):
                lines_of(text)
            with self.assertRaises(BadStore):
                done_again(text)

    def test_what_can_not_be(self):
        for text in (row(0, NOTES), row(0, "foo"), row(0, "open major c4 c4"), row(0, OPEN) + row(1, "given 1 0"),
                     row(0, OPEN) + row(1, "given 0 0 h4"), row(0, OPEN) + row(1, "given 0 0 c-0"), row(0, ""),
                     row(0, "cost"), row(0, OPEN) + row(1, "cost"), row(0, OPEN) + row(1, "canons 1 2"),
                     row(0, "open  major c4 c6"), row(0, OPEN) + row(1, "line") + row(2, NOTES), row(0, OPEN + " "),
                     row(0, "open\tmajor c4 c6")):
            self.assertTrue(lines_of(text))
            with self.assertRaises(BadStore):
                done_again(text)

    def test_done_again(self):
        deeds = (OPEN, NOTES, "given 1 1 f4", "given 0 5", "open major c4 c#4", "given 0 0 c4 b4", "given 1 1")
        desk = Desk()
        desks = [Desk()]
        for line in deeds:
            desk.say(line)
            desk.say("cost")
            desks.append(done_again(desk.text))
            self.assertEqual(shown(desks[-1])[1:], shown(desk)[1:])
            self.assertEqual(answers(desks[-1]), answers(desk))
            self.assertEqual(desks[-1].kept.given, desk.kept.given)
            self.assertEqual(desks[-1].kept.heights(), desk.kept.heights())
        for end in range(len(desk.text) + 1):
            whole = desk.text[:end].count("\n")
            again = done_again(desk.text[:end])
            self.assertEqual((again.text, again.many), (desks[whole].text, whole))
            self.assertEqual(answers(again), answers(desks[whole]))
        again = done_again(desk.text)
        self.assertEqual(again.say("given 0 0 e4"), desk.say("given 0 0 e4"))
        self.assertEqual(again.text, desk.text)


class Faults(unittest.TestCase):
    def test_each_refusal_is_a_music_fault(self):
        for line in ("", "line", "open major c4 c4", "open major c-0 c1"):
            with self.assertRaises(MusicFault):
                Desk().do(line)
