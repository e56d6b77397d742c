"""[8.1] A board's text, and that of its numbers. [8.2] A text read as a board."""

import re
import unittest
from itertools import product

import samples
from cellpatches.errors import NoBoard, NoText, NoWays, PatchError
from cellpatches.texts import board_text, numbers_text, read_board

KNOWN = [
    (("a",), "a\n"),
    (("abcdef",), "abcdef\n"),
    (("a", "b", "f"), "a\nb\nf\n"),
    (("ab", "cd"), "ab\ncd\n"),
    (("aab", "bab"), "aab\nbab\n"),
    (("abcdefab",) * 8, "abcdefab\n" * 8),
    (("c",) * 8, "c\n" * 8),
    (("dddddddd",), "dddddddd\n"),
]

NO_TEXTS = [
    "", "\n", "\n\n", "\n" * 8, "a", "ab", "ab\ncd", "a\nb", "a\n\n", "ab\ncd\n\n", "\na\n", "\nab\ncd\n", "\n\na\n",
    "a\n\nb\n", "ab\n\ncd\n", "ab\n\n\ncd\n", " ", " \n", "a \n", " a\n", "a b\n", "ab\n \n", "ab \ncd\n", "ab\ncd \n",
    "ab\ncd\n ", "ab\n cd\n", "g\n", "ag\n", "a.\n", "a-\n", "a0\n", "07\n", "`\n", "~\n", "a~\n", "A\n", "aB\n",
    "ab\nCd\n", "F\n", "ab\na\n", "a\nab\n", "ab\nab\nabc\n", "abc\nab\nabc\n", "a\n" * 9, "ab\n" * 20, "a" * 9 + "\n",
    "a" * 40 + "\n", ("a" * 9 + "\n") * 9, "ab\ncd\nx", "ab\ncd\na", "('a',)\n", "\"a\"\n", "a,b\n", "a\\n",
]

# None of these signs is one from the blank to ~ or a line feed; Python ends a line at most of them, too.
OTHER_SIGNS = "\t\r\0\x0b\x0c\x1c\x1d\x1e\x1f\x7f\x85\xa0\xe4\u0430\u2028\u2029\u3000\uff41"


def refuses(text):
    try:
        read_board(text)
    except PatchError as refusal:
        return type(refusal) is NoText
    return False


def plain_read(text):
    """The board of which the text is the writing, or None."""
    if not re.fullmatch(r"([a-f]{1,8}\n){1,8}", text):
        return None
    rows = tuple(re.findall(r"[a-f]+", text))
    return rows if len({len(row) for row in rows}) == 1 else None


class TestBoardText(unittest.TestCase):
    def test_known_texts(self):
        for board, text in KNOWN:
            self.assertEqual(board_text(board), text)

    def test_many_boards(self):
        for board in samples.sample_boards():
            told = board_text(board)
            self.assertIs(type(told), str)
            self.assertEqual(told.split("\n"), list(board) + [""])

    def test_no_board(self):
        for thing in samples.no_boards():
            with self.assertRaises(NoBoard, msg=repr(thing)):
                board_text(thing)


class TestNumbersText(unittest.TestCase):
    def test_one_figure(self):
        for ways in samples.BOTH_WAYS:
            self.assertEqual(numbers_text(("a",), ways), "00\n")
            self.assertEqual(numbers_text(("aab",), ways), "00 00 01\n")
            self.assertEqual(numbers_text(("a", "b", "b"), ways), "00\n01\n01\n")
            self.assertEqual(numbers_text(("abc", "def"), ways), "00 01 02\n03 04 05\n")
            self.assertEqual(numbers_text(("abcdefab",), ways), "00 01 02 03 04 05 06 07\n")

    def test_by_the_ways(self):
        self.assertEqual(numbers_text(("ab", "ba"), 4), "00 01\n02 03\n")
        self.assertEqual(numbers_text(("ab", "ba"), 8), "00 01\n01 00\n")
        self.assertEqual(numbers_text(("aab", "bab", "abb"), 4), "00 00 01\n02 00 01\n03 01 01\n")
        self.assertEqual(numbers_text(("aab", "bab", "abb"), 8), "00 00 01\n01 00 01\n00 01 01\n")

    def test_two_figures(self):
        wanted = "00 01 02 03 04 05\n06 07 08 09 10 11\n12 13 14 15 16 17\n"
        self.assertEqual(numbers_text(("abcdef", "bcdefa", "cdefab"), 4), wanted)
        told = numbers_text(samples.CHECKERED, 4)
        self.assertTrue(told.startswith("00 01 02 03 04 05 06 07\n08 09 10 11 12 13 14 15\n"))
        self.assertTrue(told.endswith("\n56 57 58 59 60 61 62 63\n"))
        self.assertEqual(numbers_text(samples.CHECKERED, 8), "00 01 00 01 00 01 00 01\n01 00 01 00 01 00 01 00\n" * 4)
        # Over corners, too, a board has patches with numbers of two figures.
        self.assertEqual(numbers_text(("abcdef", "cdefab"), 8), "00 01 02 03 04 05\n06 07 08 09 10 11\n")

    def test_many_boards(self):
        long_ones = 0
        for board in samples.sample_boards():
            for ways in samples.BOTH_WAYS:
                told = numbers_text(board, ways)
                self.assertIs(type(told), str)
                self.assertTrue(told.endswith("\n"))
                number_at = samples.plain_number_at(board, ways)
                for row, line in enumerate(told[:-1].split("\n")):
                    wanted = [number_at[row, column] for column in range(len(board[0]))]
                    self.assertEqual([int(figures) for figures in line.split(" ")], wanted)
                    self.assertTrue(all(len(figures) == 2 for figures in line.split(" ")))
                self.assertEqual(told.count("\n"), len(board))
                long_ones += max(number_at.values()) > 9
        self.assertGreater(long_ones, 20)

    def test_no_board(self):
        for thing in samples.no_boards():
            with self.assertRaises(NoBoard, msg=repr(thing)):
                numbers_text(thing, 4)
            with self.assertRaises(NoBoard, msg=repr(thing)):
                numbers_text(thing, 5)

    def test_no_ways(self):
        for thing in samples.no_ways():
            with self.assertRaises(NoWays, msg=repr(thing)):
                numbers_text(("ab", "ba"), thing)


class TestReadBoard(unittest.TestCase):
    def test_known_texts(self):
        for board, text in KNOWN:
            self.assertEqual(read_board(text), board)

    def test_many_boards(self):
        for board in samples.sample_boards():
            told = read_board("".join(row + "\n" for row in board))
            self.assertEqual(told, board)
            self.assertIs(type(told), tuple)
            self.assertTrue(all(type(row) is str for row in told))

    def test_all_sizes(self):
        for rows in range(1, 11):
            for width in range(0, 11):
                text = ("abcdefabcd"[:width] + "\n") * rows
                if rows <= 8 and 1 <= width <= 8:
                    self.assertEqual(read_board(text), ("abcdefab"[:width],) * rows)
                else:
                    self.assertTrue(refuses(text), text)

    def test_no_texts(self):
        for text in NO_TEXTS:
            self.assertTrue(refuses(text), repr(text))

    def check(self, text):
        wanted = plain_read(text)
        if wanted is None:
            self.assertTrue(refuses(text), repr(text))
        else:
            self.assertEqual(read_board(text), wanted, repr(text))
        return wanted is None

    def test_line_feeds_too_few_or_too_many(self):
        for _, text in KNOWN:
            self.assertTrue(refuses(text[:-1]), repr(text))
            self.assertTrue(refuses(text + "\n"), repr(text))
            self.assertTrue(refuses("\n" + text), repr(text))
            for place in range(len(text)):
                self.check(text[:place] + "\n" + text[place:])
                self.check(text[:place] + text[place + 1:])
                if text[place] == "\n":
                    self.assertTrue(refuses(text[:place] + "\n" + text[place:]), repr((text, place)))

    def test_every_sign_at_every_place(self):
        signs = [chr(code) for code in range(ord(" "), ord("~") + 1)] + list(OTHER_SIGNS)
        for text in ("a\n", "abc\n", "ab\ncd\n", "a\nb\nc\n"):
            for place in range(len(text) + 1):
                for sign in signs:
                    for spoilt in (text[:place] + sign + text[place:], text[:place] + sign + text[place + 1:]):
                        refused = self.check(spoilt)
                        self.assertTrue(refused or sign in "abcdef", repr(spoilt))

    def test_every_short_text(self):
        read = 0
        for length in range(7):
            for signs in product("af\ng", repeat=length):
                read += not self.check("".join(signs))
        self.assertGreater(read, 50)

    def test_other_writings(self):
        for text in (
            "ab\r\ncd\r\n", "ab\rcd\r", "ab\n\rcd\n", "ab\x0bcd\n", "ab\u2028cd\n", "ab\x85cd\n", "\ufeffab\n",
        ):
            self.assertTrue(refuses(text), repr(text))
        for board in (("ab", "ba"), ("a",)):
            self.assertTrue(refuses(numbers_text(board, 4)))

    def test_what_is_no_text(self):
        for thing in samples.ODD_THINGS + [("a",), ("ab", "cd"), ["a\n"], ("a\n",), ["a", "\n"]]:
            if thing != "a\n":
                self.assertTrue(refuses(thing), repr(thing))


if __name__ == "__main__":
    unittest.main()
