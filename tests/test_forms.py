import itertools
import unittest

from voicewright.errors import BadPaper, BadSize
from voicewright.forms import (LETTERS, check_writing, costs, form_of, is_again, mirrors, phrases_of, shortest, size_of,
                               unfolded, write)


def rows():
    found = ["".join(row) for many in range(8) for row in itertools.product("ab", repeat=many)]
    found += ["".join(row) for row in itertools.product("abc", repeat=5)]
    return found + ["abcabc", "aabaab", "aaabaaab", "abababc", "cababab", "aaaabb", "aabbaabbc", "abcdefg"]


def all_writings(row, known={}):
    """All writings of a row, each tried from its first letter or repeat on."""
    if row not in known:
        found = [] if row else [()]
        if row:
            found += [(row[0], *rest) for rest in all_writings(row[1:])]
        for part in range(1, len(row) // 2 + 1):
            many = 2
            while row[:part] * many == row[:part * many]:
                found += [((one, many), *rest) for one in all_writings(row[:part])
                          for rest in all_writings(row[part * many:])]
                many += 1
        known[row] = found
    return known[row]


def signs(writing):
    return sum(1 if isinstance(one, str) else 1 + signs(one[0]) for one in writing)


def least(row):
    return min(signs(writing) for writing in all_writings(row))


def wanted_writing(row):
    """The writing that the document tells of the shortest ones: plain, then cut early, then repeated."""
    if least(row) == len(row):
        return tuple(row)
    for k in range(1, len(row)):
        if least(row[:k]) + least(row[k:]) == least(row):
            return wanted_writing(row[:k]) + wanted_writing(row[k:])
    for part in range(1, len(row)):
        many = len(row) // part
        if row[:part] * many == row and least(row[:part]) + 1 == least(row):
            return ((wanted_writing(row[:part]), many),)


class Phrases(unittest.TestCase):
    def test_form_of(self):
        self.assertEqual(form_of([(60, 62), (64,), (60, 62), (), (64,)]), "abacb")
        self.assertEqual(form_of(((1,), (1,), (2,))), "aab")
        self.assertEqual(form_of(()), "")
        self.assertEqual(form_of("hello"), "abccd")
        self.assertEqual(form_of((((1, 4), 60), ((1, 4), None), ((1, 4), 60))), "aba")

    def test_twenty_six_letters(self):
        self.assertEqual(LETTERS, "abcdefghijklmnopqrstuvwxyz")
        phrases = [(note,) for note in range(26)]
        self.assertEqual(form_of(phrases), LETTERS)
        self.assertEqual(form_of(phrases + phrases[::-1]), LETTERS + LETTERS[::-1])
        phrases.append((26,))
        with self.assertRaises(BadSize):
            form_of(phrases)

    def test_phrases_of(self):
        self.assertEqual(phrases_of([60, 62, 64, 65, 67], 2), ((60, 62), (64, 65), (67,)))
        self.assertEqual(phrases_of((60, 62), 2), ((60, 62),))
        self.assertEqual(phrases_of((60, 62), 9), ((60, 62),))
        self.assertEqual(phrases_of((), 1), ())
        for long in (0, -1):
            with self.assertRaises(BadSize):
                phrases_of((60, 62), long)
        self.assertEqual(form_of(phrases_of((1, 2, 3, 1, 2, 3, 4), 3)), "aab")


class Writings(unittest.TestCase):
    def test_shortest_by_trying_all(self):
        for row in rows():
            found = shortest(row)
            self.assertIn(found, all_writings(row))
            self.assertEqual(size_of(found), least(row))
            self.assertEqual(found, wanted_writing(row))
            self.assertEqual(unfolded(found), row)
            self.assertEqual(check_writing(row, found, costs(row)), least(row))

    def test_ordinary(self):
        self.assertEqual(shortest("abab"), ((("a", "b"), 2),))
        self.assertEqual(shortest("aa"), ("a", "a"))
        self.assertEqual(shortest("aaa"), ((("a",), 3),))
        self.assertEqual(shortest("aaab"), ((("a",), 3), "b"))
        self.assertEqual(shortest("aaaabaaaab"), ((((("a",), 4), "b"), 2),))
        self.assertEqual(shortest(""), ())

    def test_rows_as_tuples(self):
        for row in rows()[::5]:
            for other in (tuple(row), list(row)):
                self.assertEqual(costs(other), costs(row))
                self.assertEqual(shortest(other), shortest(row))
                self.assertEqual(mirrors(other), mirrors(row))
                self.assertEqual(unfolded(shortest(other)), "".join(other))
                self.assertEqual(check_writing(other, shortest(other), costs(other)), least(row))

    def test_long_rows(self):
        row = "abc" * 40
        self.assertEqual(shortest(row), ((("a", "b", "c"), 40),))
        plain = (LETTERS * 4)[:100]
        self.assertEqual(unfolded(shortest(plain)), plain)

    def test_costs_by_trying_all(self):
        for row in rows()[::3]:
            wanted = {(low, high): least(row[low:high]) for low in range(len(row) + 1)
                      for high in range(low, len(row) + 1)}
            self.assertEqual(costs(row), wanted)
        self.assertEqual(costs(""), {(0, 0): 0})

    def test_write(self):
        for row in rows()[::4]:
            table = costs(row)
            for low, high in table:
                self.assertEqual(write(row, low, high, table), wanted_writing(row[low:high]))

    def test_tables_by_which_nothing_can_be_written(self):
        for table in ({}, {(0, 0): 0}, {(0, 3): 1}, {(0, 3): 2}, {(0, 3): 9, (0, 1): 1, (1, 3): 1}):
            with self.assertRaises(BadPaper):
                write("aaa", 0, 3, table)
        with self.assertRaises(BadPaper):
            write("aaa", 1, 1, {(1, 1): 5})

    def test_is_again(self):
        for row in rows():
            for part in range(1, len(row) + 2):
                self.assertIs(is_again(row, part), all(row[k] == row[k % part] for k in range(len(row))))
        self.assertIs(is_again("abcab", 3), True)
        self.assertIs(is_again("abcaa", 3), False)
        self.assertIs(is_again((1, 2, 1), 2), True)
        self.assertIs(is_again("ab", 0), False)
        self.assertIs(is_again("a", 0), False)
        self.assertIs(is_again("", 0), True)
        self.assertIs(is_again("", 1), True)


class Unfolded(unittest.TestCase):
    def test_ordinary(self):
        self.assertEqual(unfolded(("a", (("b", "c"), 3), "a")), "abcbcbca")
        self.assertEqual(unfolded(["a", [["b", (("c",), 2)], 2]]), "abccbcc")
        self.assertEqual(unfolded((("ab", 2), "c")), "ababc")
        self.assertEqual(unfolded("abc"), "abc")
        self.assertEqual(unfolded(()), "")

    def test_refused(self):
        for writing in (("ab",), ("",), ("a", "bc"), ((("a",), 1),), ((("a",), 0),), ((("a",), -2),), (((), 2),),
                        (("", 2),), ("a", (((("b",), 1),), 2)), ((("b", ((), 3)), 2),), ((("a", "bb"), 2),)):
            with self.assertRaises(BadSize):
                unfolded(writing)
            with self.assertRaises(BadSize):
                check_writing("ab", writing, costs("ab"))

    def test_size_of(self):
        self.assertEqual(size_of(("a", (("b", "c"), 3), "a")), 5)
        self.assertEqual(size_of(((((("a",), 4), "b"), 2),)), 4)
        self.assertEqual(size_of(()), 0)


class Papers(unittest.TestCase):
    ROW = "aabaabab"

    def test_all_writings_but_the_shortest_are_refused(self):
        for row in ("aabaab", "ababab", "aaaa", "aabb"):
            for writing in all_writings(row):
                if signs(writing) == least(row):
                    self.assertEqual(check_writing(row, writing, costs(row)), least(row))
                else:
                    with self.assertRaises(BadPaper):
                        check_writing(row, writing, costs(row))

    def test_too_dear_or_left_out(self):
        for part in costs(self.ROW):
            table = costs(self.ROW)
            table[part] += 1
            with self.assertRaises(BadPaper):
                check_writing(self.ROW, shortest(self.ROW), table)
            del table[part]
            with self.assertRaises(BadPaper):
                check_writing(self.ROW, shortest(self.ROW), table)

    def test_cheaper_tables_show_less(self):
        table = {part: 0 for part in costs(self.ROW)}
        with self.assertRaises(BadPaper):
            check_writing(self.ROW, shortest(self.ROW), table)

    def test_another_row(self):
        for row in ("aabaabaa", "aabaaba", "", "aabaababa"):
            for table in (costs(self.ROW), costs(row)):
                with self.assertRaises(BadPaper):
                    check_writing(self.ROW, shortest(row), table)
            with self.assertRaises(BadPaper):
                check_writing(row, shortest(self.ROW), costs(row))

    def test_the_table_is_looked_at_first(self):
        with self.assertRaises(BadPaper):
            check_writing("ab", ("ab",), {})

    def test_nothing_is_changed(self):
        table, writing = {(0, 0): 0, (1, 1): 0, (0, 1): 7}, ["b"]
        with self.assertRaises(BadPaper):
            check_writing("a", writing, table)
        self.assertEqual((table, writing), ({(0, 0): 0, (1, 1): 0, (0, 1): 7}, ["b"]))


class Mirrors(unittest.TestCase):
    def test_by_trying_all(self):
        for row in rows():
            ways = [(low - high, low, high) for low in range(len(row)) for high in range(low + 1, len(row) + 1)
                    if row[low:high] == row[low:high][::-1]]
            self.assertEqual(mirrors(row), min(ways)[1:] if ways else (0, 0))

    def test_ordinary(self):
        self.assertEqual(mirrors("abcbad"), (0, 5))
        self.assertEqual(mirrors("abc"), (0, 1))
        self.assertEqual(mirrors(""), (0, 0))
        self.assertEqual(mirrors((1, 2, 2, 1)), (0, 4))
        self.assertEqual(mirrors([3, 1, 2, 2]), (2, 4))
