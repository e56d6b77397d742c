"""[1.1], [1.2], [1.3] Letters, boards, cells, what is beside a cell, boards turned, mirrored and stacked."""

import unittest

import samples
from cellpatches.boards import (
    beside, cells, is_board, is_letter, letter_at, letters, mirrored, stacked, turned, with_letter,
)
from cellpatches.errors import NoBoard, NoCell, NoFit, NoLetter, NoWays


class TestLetters(unittest.TestCase):
    def test_the_six_letters(self):
        for sign in "abcdef":
            self.assertIs(is_letter(sign), True, sign)

    def test_no_other_sign(self):
        for code in range(0x250):
            sign = chr(code)
            if sign not in "abcdef":
                self.assertIs(is_letter(sign), False, sign)

    def test_no_other_thing(self):
        for thing in samples.no_letters():
            self.assertIs(is_letter(thing), False, repr(thing))


class TestIsBoard(unittest.TestCase):
    def test_boards_of_all_sizes(self):
        for rows in range(1, 9):
            for width in range(1, 9):
                self.assertIs(is_board(("abcdefab"[:width],) * rows), True, (rows, width))

    def test_boards_of_each_letter(self):
        for sign in "abcdef":
            self.assertIs(is_board((sign,)), True, sign)
        for board in samples.sample_boards():
            self.assertIs(is_board(board), True, board)

    def test_too_few_or_too_many(self):
        for thing in [(), ("",), ("",) * 3, ("a",) * 9, ("a" * 9,), ("a" * 9,) * 8, ("a" * 8,) * 9]:
            self.assertIs(is_board(thing), False, repr(thing))

    def test_rows_not_all_as_long(self):
        for place in range(8):
            for other in ("abc", "abcde", "", "abcdefab"):
                rows = ["abcd"] * 8
                rows[place] = other
                self.assertIs(is_board(tuple(rows)), False, rows)

    def test_one_wrong_sign_at_any_place(self):
        for row in range(3):
            for column in range(3):
                for sign in "gAF `.0\n\u00e4":
                    rows = [list("abc"), list("def"), list("abc")]
                    rows[row][column] = sign
                    thing = tuple("".join(signs) for signs in rows)
                    self.assertIs(is_board(thing), False, repr(thing))

    def test_a_row_that_is_no_text(self):
        for place in range(3):
            for other in (None, True, 1, ["a", "b"], ("a", "b"), [], (), ["ab"], ("ab",)):
                rows = ["ab"] * 3
                rows[place] = other
                self.assertIs(is_board(tuple(rows)), False, rows)

    def test_any_other_thing(self):
        for thing in samples.no_boards():
            self.assertIs(is_board(thing), False, repr(thing))


class TestCells(unittest.TestCase):
    def test_row_by_row(self):
        self.assertEqual(cells(("abc", "def")), [(0, 0), (0, 1), (0, 2), (1, 0), (1, 1), (1, 2)])
        self.assertEqual(cells(("f",)), [(0, 0)])
        self.assertEqual(cells(("ab",)), [(0, 0), (0, 1)])
        self.assertEqual(cells(("a", "b", "c")), [(0, 0), (1, 0), (2, 0)])

    def test_all_sizes(self):
        for board in samples.sample_boards(1):
            told = cells(board)
            self.assertIsInstance(told, list)
            self.assertEqual(told, samples.plain_cells(board))

    def test_refusals(self):
        for thing in samples.no_boards():
            with self.assertRaises(NoBoard, msg=repr(thing)):
                cells(thing)


class TestLetterAt(unittest.TestCase):
    def test_corners_and_inside(self):
        board = ("abcd", "efab", "cdef")
        for cell, letter in [
            ((0, 0), "a"), ((0, 3), "d"), ((2, 0), "c"), ((2, 3), "f"), ((1, 1), "f"), ((1, 2), "a"), ((0, 2), "c"),
            ((1, 0), "e"), ((1, 3), "b"), ((2, 1), "d"),
        ]:
            self.assertEqual(letter_at(board, cell), letter, cell)

    def test_all_letters_in_their_order(self):
        for board in samples.sample_boards(1):
            told = "".join(letter_at(board, cell) for cell in samples.plain_cells(board))
            self.assertEqual(told, "".join(board))

    def test_no_board(self):
        for thing in samples.no_boards():
            with self.assertRaises(NoBoard, msg=repr(thing)):
                letter_at(thing, (0, 0))

    def test_no_cell(self):
        for board in [("abcd", "efab", "cdef"), ("a",), ("abcdef",), ("a", "b"), ("a" * 8,) * 8]:
            for thing in samples.no_cells(board):
                with self.assertRaises(NoCell, msg=(board, thing)):
                    letter_at(board, thing)


class TestWithLetter(unittest.TestCase):
    def test_corners_and_inside(self):
        board = ("aaaa", "aaaa", "aaaa")
        self.assertEqual(with_letter(board, (0, 0), "b"), ("baaa", "aaaa", "aaaa"))
        self.assertEqual(with_letter(board, (0, 3), "c"), ("aaac", "aaaa", "aaaa"))
        self.assertEqual(with_letter(board, (2, 0), "d"), ("aaaa", "aaaa", "daaa"))
        self.assertEqual(with_letter(board, (2, 3), "e"), ("aaaa", "aaaa", "aaae"))
        self.assertEqual(with_letter(board, (1, 2), "f"), ("aaaa", "aafa", "aaaa"))
        self.assertEqual(with_letter(board, (1, 1), "a"), board)
        self.assertEqual(with_letter(("b",), (0, 0), "a"), ("a",))

    def test_only_that_cell_changes(self):
        for board in samples.sample_boards(1):
            for cell in samples.plain_cells(board):
                for letter in "af":
                    told = with_letter(board, cell, letter)
                    self.assertIs(is_board(told), True)
                    for other in samples.plain_cells(board):
                        wanted = letter if other == cell else board[other[0]][other[1]]
                        self.assertEqual(told[other[0]][other[1]], wanted)

    def test_refusals(self):
        board = ("abc", "def")
        for thing in samples.no_boards():
            with self.assertRaises(NoBoard, msg=repr(thing)):
                with_letter(thing, (0, 0), "a")
        for thing in samples.no_cells(board):
            with self.assertRaises(NoCell, msg=repr(thing)):
                with_letter(board, thing, "a")
        for thing in samples.no_letters():
            with self.assertRaises(NoLetter, msg=repr(thing)):
                with_letter(board, (1, 1), thing)
            with self.assertRaises(NoLetter, msg=repr(thing)):
                with_letter(("a",), (0, 0), thing)


class TestBeside(unittest.TestCase):
    board = ("abc", "def", "abc", "fed")

    def test_corners(self):
        self.assertEqual(beside(self.board, (0, 0), 4), [(0, 1), (1, 0)])
        self.assertEqual(beside(self.board, (0, 0), 8), [(0, 1), (1, 0), (1, 1)])
        self.assertEqual(beside(self.board, (0, 2), 4), [(0, 1), (1, 2)])
        self.assertEqual(beside(self.board, (0, 2), 8), [(0, 1), (1, 1), (1, 2)])
        self.assertEqual(beside(self.board, (3, 0), 4), [(2, 0), (3, 1)])
        self.assertEqual(beside(self.board, (3, 0), 8), [(2, 0), (2, 1), (3, 1)])
        self.assertEqual(beside(self.board, (3, 2), 4), [(2, 2), (3, 1)])
        self.assertEqual(beside(self.board, (3, 2), 8), [(2, 1), (2, 2), (3, 1)])

    def test_sides(self):
        self.assertEqual(beside(self.board, (0, 1), 4), [(0, 0), (0, 2), (1, 1)])
        self.assertEqual(beside(self.board, (0, 1), 8), [(0, 0), (0, 2), (1, 0), (1, 1), (1, 2)])
        self.assertEqual(beside(self.board, (1, 0), 4), [(0, 0), (1, 1), (2, 0)])
        self.assertEqual(beside(self.board, (1, 0), 8), [(0, 0), (0, 1), (1, 1), (2, 0), (2, 1)])

    def test_inside(self):
        self.assertEqual(beside(self.board, (1, 1), 4), [(0, 1), (1, 0), (1, 2), (2, 1)])
        self.assertEqual(
            beside(self.board, (1, 1), 8),
            [(0, 0), (0, 1), (0, 2), (1, 0), (1, 2), (2, 0), (2, 1), (2, 2)],
        )

    def test_one_cell_one_row_one_column(self):
        for ways in samples.BOTH_WAYS:
            self.assertEqual(beside(("a",), (0, 0), ways), [])
            self.assertEqual(beside(("abc",), (0, 0), ways), [(0, 1)])
            self.assertEqual(beside(("abc",), (0, 1), ways), [(0, 0), (0, 2)])
            self.assertEqual(beside(("abc",), (0, 2), ways), [(0, 1)])
            self.assertEqual(beside(("a", "b", "c"), (0, 0), ways), [(1, 0)])
            self.assertEqual(beside(("a", "b", "c"), (1, 0), ways), [(0, 0), (2, 0)])
            self.assertEqual(beside(("a", "b", "c"), (2, 0), ways), [(1, 0)])

    def test_every_cell_of_many_boards(self):
        for board in samples.sample_boards(1):
            for ways in samples.BOTH_WAYS:
                for cell in samples.plain_cells(board):
                    told = beside(board, cell, ways)
                    self.assertIsInstance(told, list)
                    self.assertEqual(told, samples.plain_beside(board, cell, ways), (board, cell, ways))

    def test_refusals(self):
        for thing in samples.no_boards():
            with self.assertRaises(NoBoard, msg=repr(thing)):
                beside(thing, (0, 0), 4)
        for ways in samples.BOTH_WAYS:
            for thing in samples.no_cells(self.board):
                with self.assertRaises(NoCell, msg=repr(thing)):
                    beside(self.board, thing, ways)
        for thing in samples.no_ways():
            with self.assertRaises(NoWays, msg=repr(thing)):
                beside(self.board, (0, 0), thing)


class TestTurnedAndMirrored(unittest.TestCase):
    def test_turned(self):
        self.assertEqual(turned(("abc", "def")), ("da", "eb", "fc"))
        self.assertEqual(turned(("ab", "cd", "ef")), ("eca", "fdb"))
        self.assertEqual(turned(("abcdef",)), ("a", "b", "c", "d", "e", "f"))
        self.assertEqual(turned(("a", "b", "c")), ("cba",))
        self.assertEqual(turned(("f",)), ("f",))
        self.assertEqual(turned(("abcdefab", "cccccccc")), ("ca", "cb", "cc", "cd", "ce", "cf", "ca", "cb"))

    def test_mirrored(self):
        self.assertEqual(mirrored(("abc", "def")), ("cba", "fed"))
        self.assertEqual(mirrored(("ab", "cd", "ef")), ("ba", "dc", "fe"))
        self.assertEqual(mirrored(("a", "b")), ("a", "b"))
        self.assertEqual(mirrored(("abcdefab",)), ("bafedcba",))

    def test_they_lead_back(self):
        for board in samples.sample_boards():
            self.assertEqual(turned(turned(turned(turned(board)))), board)
            self.assertEqual(mirrored(mirrored(board)), board)
            # Mirrored between two turns, the board is turned back by the second one.
            self.assertEqual(mirrored(turned(mirrored(turned(board)))), board)

    def test_where_each_cell_goes(self):
        for board in samples.sample_boards():
            told = turned(board)
            other = mirrored(board)
            self.assertIs(is_board(told), True)
            self.assertIs(is_board(other), True)
            self.assertEqual((len(told), len(told[0])), (len(board[0]), len(board)))
            self.assertEqual((len(other), len(other[0])), (len(board), len(board[0])))
            for row, column in samples.plain_cells(board):
                self.assertEqual(told[column][len(board) - 1 - row], board[row][column])
                self.assertEqual(other[row][len(board[0]) - 1 - column], board[row][column])

    def test_refusals(self):
        for thing in samples.no_boards():
            with self.assertRaises(NoBoard, msg=repr(thing)):
                turned(thing)
            with self.assertRaises(NoBoard, msg=repr(thing)):
                mirrored(thing)


class TestStacked(unittest.TestCase):
    def test_the_one_above_the_other(self):
        self.assertEqual(stacked(("ab",), ("cd", "ef")), ("ab", "cd", "ef"))
        self.assertEqual(stacked(("cd", "ef"), ("ab",)), ("cd", "ef", "ab"))
        self.assertEqual(stacked(("a",), ("a",)), ("a", "a"))

    def test_rows_together(self):
        for one in range(1, 9):
            for other in range(1, 9):
                for width in (1, 5, 8):
                    above = ("aaaaaaaa"[:width],) * one
                    below = ("bbbbbbbb"[:width],) * other
                    if one + other <= 8:
                        self.assertEqual(stacked(above, below), above + below)
                    else:
                        with self.assertRaises(NoFit, msg=(one, other)):
                            stacked(above, below)

    def test_not_as_wide(self):
        for one in range(1, 9):
            for other in range(1, 9):
                if one != other:
                    with self.assertRaises(NoFit, msg=(one, other)):
                        stacked(("a" * one,), ("a" * other,))
                    with self.assertRaises(NoFit, msg=(one, other)):
                        stacked(("a" * one,) * 8, ("a" * other,))

    def test_refusals(self):
        for thing in samples.no_boards():
            with self.assertRaises(NoBoard, msg=repr(thing)):
                stacked(thing, ("a",))
            with self.assertRaises(NoBoard, msg=repr(thing)):
                stacked(("a",), thing)
            with self.assertRaises(NoBoard, msg=repr(thing)):
                stacked(("ab",) * 8, thing)
            with self.assertRaises(NoBoard, msg=repr(thing)):
                stacked(thing, thing)


class TestCountedLetters(unittest.TestCase):
    def test_counts(self):
        self.assertEqual(letters(("fab", "aaf")), [("a", 3), ("b", 1), ("f", 2)])
        self.assertEqual(letters(("fedcba",)), [(sign, 1) for sign in "abcdef"])
        self.assertEqual(letters(("c",)), [("c", 1)])
        self.assertEqual(letters(("e" * 8,) * 8), [("e", 64)])

    def test_many_boards(self):
        for board in samples.sample_boards():
            told = letters(board)
            self.assertIsInstance(told, list)
            self.assertEqual(told, sorted(set(told)))
            self.assertEqual(sum(many for _, many in told), len(board) * len(board[0]))
            self.assertEqual(dict(told), {sign: "".join(board).count(sign) for sign in set("".join(board))})
            self.assertTrue(all(isinstance(pair, tuple) for pair in told))

    def test_refusals(self):
        for thing in samples.no_boards():
            with self.assertRaises(NoBoard, msg=repr(thing)):
                letters(thing)


if __name__ == "__main__":
    unittest.main()
