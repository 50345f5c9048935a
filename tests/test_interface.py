"""That each name of the interface stands in its own file, with its arguments and the methods of its classes."""

import ast
import inspect
import pathlib
import unittest

import voicewright

FOLDER = pathlib.Path(voicewright.__file__).parent

DEFS = {
    "notes": ["check_note(note)", "class_of(note)", "octave_of(note)", "read_note(text)", "spellings(note)",
              "apart(one, other)", "moved(one, letters, steps)", "turned(note, about)"],
    "steps": ["size(one, other)", "simple(one, other)", "goes_together(low, high)", "is_perfect(low, high)",
              "is_step(one, other)", "is_leap(one, other)", "way_of(one, other)",
              "motion(low, low_next, high, high_next)", "runs_alike(low, low_next, high, high_next)",
              "falls_into(low, low_next, high, high_next)", "inverted(steps)", "shape(tune)", "moves(tune)",
              "span(tune)", "top_places(tune)"],
    "keys": ["all_keys()", "keys_of(tune)", "outside(key, tune)", "nearest_key(tune)", "shares(one, other)",
             "fifths(key)", "signs_of(many)", "spelled_in(key, note)"],
    "parts": ["shared(one, other)", "part(top, low=1)", "plus(one, other)", "minus(one, other)", "times(one, other)",
              "by(one, other)", "is_less(one, other)", "least(one, other)", "greatest(one, other)",
              "whole_below(one)", "total(parts)", "rest_by(one, other)", "in_order(parts)", "check_length(one)"],
    "lines": ["keeps(given, line, rules)", "line_cost(given, line, rules)", "first_spots(given, rules)",
              "may_follow(given, place, spot, note, rules)", "heights(given, rules)", "best_line(given, rules)",
              "source(given, rules, table, place, spot)", "how_many(given, rules)",
              "check_heights(given, rules, table)", "check_line(given, line, rules, table)",
              "check_none(given, rules, table)"],
    "pairs": ["passes(before, here, after)", "may_pair(rules, low, low_next, first, second, after)",
              "pair_cost(first, second, after)", "keeps_pairs(given, line, rules)", "cost_of_pairs(line)",
              "pair_heights(given, rules)", "follows(given, place, first, rules)", "best_pairs(given, rules)",
              "check_pairs(given, line, rules, table)", "firsts(line)", "passed(line)"],
    "canons": ["overlap(tune, other, delay)", "may_sound(pairs)", "follows_at(tune, delay, shift)",
               "all_canons(tune, delays, shifts)", "mirrored(tune, about)", "backwards(tune)",
               "all_mirrors(tune, delays, abouts)", "crab(tune)", "may_add(tune, note, delay, shift)",
               "next_states(state, notes, delay, shift)", "best_canon(notes, long, delay, shift)",
               "canon_heights(notes, long, delay, shift)", "tune_cost(tune)",
               "check_canon(tune, notes, delay, shift, table)", "round_may(tune, delay)"],
    "chords": ["classes(notes)", "chord(root, kind)", "names(notes)", "within(notes)", "inversion(notes)",
               "turned_chord(root, kind, by)", "close(root, kind, low)", "layouts(root, kind, low, high, many)",
               "triads_of(key)", "common(one, other)"],
    "leads": ["check_rows(one, other)", "cost_of(one, other)", "straight(one, other)", "least_steps(one, other)",
              "crossing(one, other)", "weights(one, other)", "check_weights(one, other, papers)",
              "to_chord(notes, steps, low, high)", "course(rows)", "course_cost(rows)"],
    "courses": ["fitting(style, note)", "heights_under(style, tune)", "best_course(style, tune)",
                "course_of(style, tune, numbers)", "best_courses(style, tune, many)",
                "check_under(style, tune, table)", "check_course(style, tune, numbers, table)",
                "told_course(style, numbers)"],
    "motives": ["places_of(motive, tune)", "moved_places(motive, tune)", "turned_places(motive, tune)",
                "back_places(motive, tune)", "shaped_places(motive, tune)", "spread_within(motive, tune, gap)",
                "longest_again(tune)", "all_motives(tune, long)", "covered(tune, motive)", "alike(one, other)"],
    "beats": ["even(struck, many)", "strokes(row)", "gaps(row)", "turned_row(row, by)", "same_round(one, other)",
              "is_even(row)", "all_rows(struck, many)", "least_turn(row)", "rounds(struck, many)",
              "shared_by(one, other)", "choose(many, few)", "how_many_rounds(struck, many)",
              "both_struck(one, other)", "off(row, strong)", "against(one, other)"],
    "bars": ["cut_at_bars(meter, start, length)", "written(most, halvings, points)", "power(count)",
             "sorted_down(lengths)", "tied(length, lengths, most=6)", "written_note(meter, start, length, lengths)",
             "many_written(meter, notes, lengths)"],
    "tempos": ["merged(tempos)", "meets(tempos, other, times_of)", "even_change(start, first, last, steps)"],
    "players": ["check_notes(notes)", "order_of(notes)", "players_of(notes)", "sounding(notes, time)",
                "fullest(notes)", "fewest(notes)", "check_players(notes, players, time)",
                "part_of(notes, players, player)", "overlaps(notes)", "end_of(notes)"],
    "streams": ["events(notes)", "is_ahead(one, other)", "put_in(rows, one)", "together(streams)",
                "notes_of(stream)", "moved_stream(stream, much)", "between(stream, start, end)",
                "open_at(stream, time)", "steps_between(stream)", "from_steps(rows)"],
    "kept": ["worse_by(kept, line)"],
    "sets": ["check_set(classes)", "moved_set(classes, steps)", "turned_set(classes, about)", "least_form(classes)",
             "is_same_kind(one, other)", "all_forms(classes)", "intervals(classes)", "others(classes)",
             "shared_moved(classes, steps)", "stays(classes)", "lots(many)", "within_kind(one, other)",
             "twins(one, other)"],
    "series": ["check_series(row)", "form(row, kind, steps)", "all_forms_of(row)", "square(row)", "steps_in(row)",
               "has_all_steps(row)", "which(row, other)", "fits_halves(row, kind, steps)", "all_fits(row)",
               "places_alike(row, kind, steps)", "from_step_row(start, steps)", "same_order(one, other)"],
    "grids": ["nearest(time, step)", "off_by(time, step, number)", "heights_on(rows, step, most)", "smallest(parts)",
              "on_grid(rows, step, most)", "moved_by(rows, step, numbers)",
              "check_grid(rows, step, most, numbers, table)", "swung(number, step, share)",
              "unswung(time, step, share)"],
    "scores": ["perfect_places(score, low, high)", "ranges(score)", "fits_ranges(score, bounds)",
               "best_move(score, bounds, key)"],
    "tunes": ["check_tune(rows)", "long(tune)", "timed(tune)", "untimed(notes)", "up(tune, steps)",
              "over(tune, about)", "back(tune)", "stretched(tune, much)", "cut(tune, start, end)", "joined(tune)",
              "at(tune, time)", "told(tune)", "read_tune(text)", "is_number(word)", "repeated(tune, many)",
              "filled(tune, length)"],
    "forms": ["form_of(phrases)", "phrases_of(tune, long)", "costs(row)", "is_again(row, part)", "shortest(row)",
              "write(row, low, high, table)", "unfolded(writing)", "size_of(writing)",
              "check_writing(row, writing, table)", "mirrors(row)"],
    "hands": ["move(one, other)", "heights_of(neck, tune)", "best_spots(neck, tune)",
              "cost_of_spots(neck, tune, spots)", "check_spots(neck, tune, spots, table)",
              "grips(neck, notes, wide)"],
    "bells": ["rounds_of(many)", "check_change(change, many)", "rung(row, change)", "all_rung(start, changes)",
              "twice(rows)", "is_true(many, changes)", "plain_changes(many)", "factorial(many)",
              "check_extent(many, changes)", "all_changes(many)", "back_to_rounds(many, lead)", "falls(row)",
              "path_of(rows, bell)"],
    "desks": ["number(word)", "read_notes(words)", "told_note(note)", "told_notes(notes)", "figure_of(text)",
              "lines_of(text)", "done_again(text)"],
}
CLASSES = {
    ("notes", "Spelled"): ["__init__(self, letter, signs, octave)", "note(self)", "place(self)", "shown(self)",
                           "told(self)"],
    ("keys", "Key"): ["__init__(self, root, kind)", "classes(self)", "has(self, note)", "degree(self, note)",
                      "place(self, note)", "at(self, place)", "moved(self, note, degrees)",
                      "between(self, low, high)", "shown(self)"],
    ("lines", "Rules"): ["__init__(self, notes, leap=9, along=1, repeat=2, above=True)", "sounds(self, low, high)",
                         "may_begin(self, low, high)", "may_move(self, low, low_next, high, high_next)",
                         "cost(self, low, low_next, high, high_next)", "turns(self, before, here, after)"],
    ("courses", "Style"): ["__init__(self, chords, costs, moves, other=3)", "fits(self, number, note)",
                           "cost(self, number)", "move(self, one, other)"],
    ("bars", "Meter"): ["__init__(self, beats, length, strong=())", "bar(self)", "place(self, time)",
                        "weight(self, time)", "next_bar(self, time)"],
    ("tempos", "Tempos"): ["__init__(self, changes)", "time_of(self, beat)", "beat_at(self, time)",
                           "length_at(self, beat)", "changed(self, beat, length)", "stretched(self, much)",
                           "shown(self)"],
    ("kept", "Kept"): ["__init__(self, given, rules)", "fill(self)", "next_heights(self, place)",
                       "change(self, place, many, notes)", "cost(self)", "line(self)", "heights(self)",
                       "check(self)"],
    ("scores", "Score"): ["__init__(self, lines)", "long(self)", "sound(self, place)", "pairs(self)", "rough(self)",
                          "crossed(self)", "alike(self)", "fallen(self)", "motions(self, low, high)",
                          "is_clean(self)", "moved(self, steps)", "without(self, number)", "with_line(self, line)",
                          "shown(self)"],
    ("hands", "Neck"): ["__init__(self, strings, places)", "spots(self, note)", "note(self, spot)"],
    ("desks", "Desk"): ["__init__(self)", "say(self, line)", "do(self, line)", "begin(self, words)", "here(self)",
                        "written(self, words)", "answer(self, word)"],
}
ERRORS = ("MusicFault", "BadNote", "BadTime", "BadLine", "NoLine", "BadPaper", "BadSize", "BadText", "BadStore",
          "NoSuch")


def module(name):
    return __import__("voicewright." + name, fromlist=["x"])


def tree_of(name):
    return ast.parse((FOLDER / (name + ".py")).read_text())


class Interface(unittest.TestCase):
    def test_functions(self):
        for name, wanted in DEFS.items():
            own = [node.name for node in tree_of(name).body if isinstance(node, ast.FunctionDef)]
            for one in wanted:
                called = one.split("(")[0]
                self.assertIn(called, own)
                self.assertEqual(called + str(inspect.signature(getattr(module(name), called))), one)

    def test_classes(self):
        for (name, called), wanted in CLASSES.items():
            own = [node for node in tree_of(name).body if isinstance(node, ast.ClassDef) and node.name == called]
            self.assertEqual(len(own), 1)
            body = [node.name for node in own[0].body if isinstance(node, ast.FunctionDef)]
            for one in wanted:
                method = one.split("(")[0]
                self.assertIn(method, body)
                self.assertEqual(method + str(inspect.signature(getattr(getattr(module(name), called), method))), one)

    def test_errors_are_defined_in_their_file(self):
        own = [node.name for node in tree_of("errors").body if isinstance(node, ast.ClassDef)]
        self.assertEqual(own, list(ERRORS))


class Files(unittest.TestCase):
    def test_sizes_and_signs(self):
        for path in sorted(FOLDER.glob("*.py")):
            text = path.read_text()
            rows = text.split("\n")
            self.assertLess(len(rows), 400, path)
            self.assertLessEqual(max(len(row) for row in rows), 120, path)
            self.assertTrue(all(sign == "\n" or " " <= sign <= "~" for sign in text), path)
            for node in ast.walk(ast.parse(text)):
                if isinstance(node, ast.FunctionDef):
                    self.assertLessEqual(node.end_lineno - node.lineno + 1, 40, node.name)
                    self.assertTrue(ast.get_docstring(node), node.name)

    def test_imports(self):
        for path in sorted(FOLDER.glob("*.py")):
            for node in ast.walk(ast.parse(path.read_text())):
                self.assertNotIsInstance(node, ast.Import)
                if isinstance(node, ast.ImportFrom):
                    self.assertTrue(node.module in ("math", "itertools") or node.module.startswith("voicewright."))
