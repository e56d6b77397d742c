"""[2.1] Patches, their cells, their order, their numbers, how many there are."""

import unittest

import samples
from cellpatches.errors import NoBoard, NoCell, NoWays
from cellpatches.patches import how_many, numbered, patch_of, patches

BOARD = (
    "aab",
    "bab",
    "abb",
)


class TestKnownPatches(unittest.TestCase):
    def test_over_sides(self):
        told = [
            [(0, 0), (0, 1), (1, 1)],
            [(0, 2), (1, 2), (2, 1), (2, 2)],
            [(1, 0)],
            [(2, 0)],
        ]
        self.assertEqual(patches(BOARD, 4), told)
        self.assertEqual(how_many(BOARD, 4), 4)
        self.assertEqual(numbered(BOARD, 4), [[0, 0, 1], [2, 0, 1], [3, 1, 1]])

    def test_over_corners_too(self):
        told = [
            [(0, 0), (0, 1), (1, 1), (2, 0)],
            [(0, 2), (1, 0), (1, 2), (2, 1), (2, 2)],
        ]
        self.assertEqual(patches(BOARD, 8), told)
        self.assertEqual(how_many(BOARD, 8), 2)
        self.assertEqual(numbered(BOARD, 8), [[0, 0, 1], [1, 0, 1], [0, 1, 1]])

    def test_patch_of(self):
        self.assertEqual(patch_of(BOARD, (1, 1), 4), [(0, 0), (0, 1), (1, 1)])
        self.assertEqual(patch_of(BOARD, (1, 1), 8), [(0, 0), (0, 1), (1, 1), (2, 0)])
        self.assertEqual(patch_of(BOARD, (2, 0), 4), [(2, 0)])
        self.assertEqual(patch_of(BOARD, (2, 1), 4), [(0, 2), (1, 2), (2, 1), (2, 2)])
        self.assertEqual(patch_of(BOARD, (1, 0), 8), [(0, 2), (1, 0), (1, 2), (2, 1), (2, 2)])

    def test_only_corners_between(self):
        self.assertEqual(patches(("ab", "ba"), 4), [[(0, 0)], [(0, 1)], [(1, 0)], [(1, 1)]])
        self.assertEqual(patches(("ab", "ba"), 8), [[(0, 0), (1, 1)], [(0, 1), (1, 0)]])
        self.assertEqual(patches(("ab", "ca"), 8), [[(0, 0), (1, 1)], [(0, 1)], [(1, 0)]])
        self.assertEqual(patches(("ab", "bc"), 8), [[(0, 0)], [(0, 1), (1, 0)], [(1, 1)]])

    def test_one_letter(self):
        for rows, width in samples.SIZES:
            board = ("c" * width,) * rows
            for ways in samples.BOTH_WAYS:
                self.assertEqual(patches(board, ways), [samples.plain_cells(board)])
                self.assertEqual(how_many(board, ways), 1)
                self.assertEqual(numbered(board, ways), [[0] * width] * rows)

    def test_no_two_alike_beside_one_another(self):
        board = samples.CHECKERED
        self.assertEqual(how_many(board, 4), 64)
        self.assertEqual(how_many(board, 8), 2)
        self.assertEqual(patches(board, 4), [[cell] for cell in samples.plain_cells(board)])
        self.assertEqual(numbered(board, 4), [list(range(8 * row, 8 * row + 8)) for row in range(8)])
        board = ("abab", "cdcd", "abab")
        for ways in samples.BOTH_WAYS:
            self.assertEqual(how_many(board, ways), 12)
            self.assertEqual(patches(board, ways), [[cell] for cell in samples.plain_cells(board)])

    def test_long_bends(self):
        self.assertEqual(how_many(samples.SNAKE, 4), 5)
        self.assertEqual(len(patch_of(samples.SNAKE, (0, 0), 4)), 36)
        self.assertEqual(patch_of(samples.SNAKE, (7, 0), 4), patch_of(samples.SNAKE, (0, 0), 4))

    def test_a_row_does_not_hang_on_to_the_next_one(self):
        self.assertEqual(how_many(("aba", "aab"), 4), 4)
        self.assertEqual(patches(("bba", "abb"), 8), [[(0, 0), (0, 1), (1, 1), (1, 2)], [(0, 2)], [(1, 0)]])
        self.assertEqual(patches(("abba",), 8), [[(0, 0)], [(0, 1), (0, 2)], [(0, 3)]])


class TestManyPatches(unittest.TestCase):
    def check(self, board, ways):
        wanted = samples.plain_patches(board, ways)
        self.assertEqual(patches(board, ways), wanted, (board, ways))
        self.assertEqual(how_many(board, ways), len(wanted), (board, ways))
        numbers = numbered(board, ways)
        self.assertEqual([len(row) for row in numbers], [len(row) for row in board])
        for number, patch in enumerate(wanted):
            for row, column in patch:
                self.assertEqual(numbers[row][column], number, (board, ways))
                self.assertEqual(patch_of(board, (row, column), ways), patch, (board, ways))

    def test_drawn_boards(self):
        for board in samples.sample_boards():
            for ways in samples.BOTH_WAYS:
                self.check(board, ways)

    def test_every_small_board(self):
        for rows, width in [(1, 4), (4, 1), (2, 3), (3, 2), (3, 3)]:
            for board in samples.every_board(rows, width):
                for ways in samples.BOTH_WAYS:
                    self.check(board, ways)

    def test_kinds(self):
        for board in samples.sample_boards(1):
            for ways in samples.BOTH_WAYS:
                self.assertIs(type(how_many(board, ways)), int)
                for told in (patches(board, ways), numbered(board, ways)):
                    self.assertIs(type(told), list)
                    self.assertTrue(all(type(part) is list for part in told))
                self.assertIs(type(patch_of(board, (0, 0), ways)), list)


class TestRefusals(unittest.TestCase):
    def test_no_board(self):
        for thing in samples.no_boards():
            with self.assertRaises(NoBoard, msg=repr(thing)):
                patch_of(thing, (0, 0), 4)
            for function in (patches, how_many, numbered):
                with self.assertRaises(NoBoard, msg=repr(thing)):
                    function(thing, 8)

    def test_no_ways(self):
        for thing in samples.no_ways():
            with self.assertRaises(NoWays, msg=repr(thing)):
                patch_of(BOARD, (0, 0), thing)
            for function in (patches, how_many, numbered):
                with self.assertRaises(NoWays, msg=repr(thing)):
                    function(BOARD, thing)
                with self.assertRaises(NoWays, msg=repr(thing)):
                    function(("a",), thing)

    def test_no_cell(self):
        for board in [BOARD, ("a",), ("ab",), ("a", "b"), ("a" * 8,) * 8]:
            for thing in samples.no_cells(board):
                with self.assertRaises(NoCell, msg=(board, thing)):
                    patch_of(board, thing, 4)


if __name__ == "__main__":
    unittest.main()
