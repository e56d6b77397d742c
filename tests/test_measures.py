"""[3.1] Size, rim and box of a patch. [3.2] What it shuts in, its holes. [3.3] Who touches whom, who is greatest."""

import unittest

import samples
from cellpatches.errors import NoBoard, NoNumber, NoWays
from cellpatches.measures import at_edge, box, greatest, holes, rim, shut_in, size, touching
from cellpatches.patches import how_many, patches

OF_A_NUMBER = (size, rim, box, shut_in, holes)
OF_A_BOARD = (touching, greatest, at_edge)

BENT = (
    "aab",
    "bab",
    "abb",
)

RING = (
    "bbbbb",
    "baaab",
    "bacab",
    "baaab",
    "bbbbb",
)

STEPS = (
    "abb",
    "bab",
    "bba",
)

# By 4 the a's have a gap at a corner, by 8 they have none.
GAP = (
    "baa",
    "aca",
    "aaa",
)


class TestSizeRimBox(unittest.TestCase):
    def check(self, board, ways, number, wanted):
        told = (size(board, ways, number), rim(board, ways, number), box(board, ways, number))
        self.assertEqual(told, wanted, (board, ways, number))

    def test_one_cell(self):
        for ways in samples.BOTH_WAYS:
            self.check(("a",), ways, 0, (1, 4, (0, 0, 0, 0)))
            for number, (row, column) in enumerate(samples.plain_cells(("abc", "def"))):
                self.check(("abc", "def"), ways, number, (1, 4, (row, column, row, column)))
            self.check(RING, ways, 2, (1, 4, (2, 2, 2, 2)))
        self.check(BENT, 4, 2, (1, 4, (1, 0, 1, 0)))
        self.check(BENT, 4, 3, (1, 4, (2, 0, 2, 0)))

    def test_a_whole_board(self):
        for rows, width in samples.SIZES:
            board = ("d" * width,) * rows
            for ways in samples.BOTH_WAYS:
                self.check(board, ways, 0, (rows * width, 2 * (rows + width), (0, 0, rows - 1, width - 1)))

    def test_bent(self):
        self.check(BENT, 4, 0, (3, 8, (0, 0, 1, 1)))
        self.check(BENT, 4, 1, (4, 10, (0, 1, 2, 2)))
        self.check(BENT, 8, 0, (4, 12, (0, 0, 2, 1)))
        self.check(BENT, 8, 1, (5, 14, (0, 0, 2, 2)))
        self.check(samples.SNAKE, 4, 0, (36, 74, (0, 0, 7, 7)))

    def test_with_a_hole(self):
        for ways in samples.BOTH_WAYS:
            # 12 sides outside and 4 within; the outer ring has 20 at the board's edge and 12 within.
            self.check(RING, ways, 1, (8, 16, (1, 1, 3, 3)))
            self.check(RING, ways, 0, (16, 32, (0, 0, 4, 4)))

    def test_over_corners_alone(self):
        self.check(STEPS, 8, 0, (3, 12, (0, 0, 2, 2)))
        self.check(STEPS, 8, 1, (6, 16, (0, 0, 2, 2)))
        self.check(STEPS, 4, 0, (1, 4, (0, 0, 0, 0)))
        self.check(STEPS, 4, 1, (3, 8, (0, 1, 1, 2)))
        self.check(samples.CHECKERED, 8, 0, (32, 128, (0, 0, 7, 7)))
        self.check(("ab", "ba"), 8, 1, (2, 8, (0, 0, 1, 1)))

    def test_sides_at_the_edge(self):
        for ways in samples.BOTH_WAYS:
            self.check(("abbb",), ways, 1, (3, 8, (0, 1, 0, 3)))
            self.check(("a", "a", "b"), ways, 0, (2, 6, (0, 0, 1, 0)))

    def test_many_boards(self):
        for board in samples.sample_boards():
            for ways in samples.BOTH_WAYS:
                for number, patch in enumerate(samples.plain_patches(board, ways)):
                    rows, columns = zip(*patch)
                    wanted = (min(rows), min(columns), max(rows), max(columns))
                    self.check(board, ways, number, (len(patch), samples.plain_rim(patch), wanted))

    def test_kinds(self):
        for ways in samples.BOTH_WAYS:
            self.assertIs(type(size(BENT, ways, 1)), int)
            self.assertIs(type(rim(BENT, ways, 1)), int)
            self.assertIs(type(box(BENT, ways, 1)), tuple)


class TestShutIn(unittest.TestCase):
    def check(self, board, ways, number, cells, many):
        self.assertEqual(shut_in(board, ways, number), cells, (board, ways, number))
        self.assertEqual(holes(board, ways, number), many, (board, ways, number))

    def test_a_ring_round_one_cell(self):
        for ways in samples.BOTH_WAYS:
            self.check(("aaa", "aba", "aaa"), ways, 0, [(1, 1)], 1)
            self.check(("aaa", "aba", "aaa"), ways, 1, [], 0)
            self.check(RING, ways, 1, [(2, 2)], 1)
            self.check(RING, ways, 2, [], 0)

    def test_a_ring_round_several(self):
        for ways in samples.BOTH_WAYS:
            self.check(("aaaa", "abca", "aaaa"), ways, 0, [(1, 1), (1, 2)], 1)
            self.check(("aaa", "aba", "aba", "aaa"), ways, 0, [(1, 1), (2, 1)], 1)
            wanted = [(row, column) for row in (1, 2, 3) for column in (1, 2, 3)]
            self.check(RING, ways, 0, wanted, 1)

    def test_two_apart(self):
        for ways in samples.BOTH_WAYS:
            self.check(("aaaaa", "abaca", "aaaaa"), ways, 0, [(1, 1), (1, 3)], 2)
            self.check(("aaaaa", "ababa", "aaaaa"), ways, 0, [(1, 1), (1, 3)], 2)
            self.check(("aaa", "aba", "aaa", "aba", "aaa"), ways, 0, [(1, 1), (3, 1)], 2)

    def test_closed_over_corners_alone(self):
        self.check(GAP, 4, 1, [], 0)
        self.check(GAP, 8, 1, [(1, 1)], 1)
        board = ("bab", "aba", "bab")
        self.check(board, 8, 1, [(1, 1)], 1)
        self.check(board, 8, 0, [], 0)
        for number in range(9):
            self.check(board, 4, number, [], 0)
        board = ("bbabb", "babab", "abbba", "babab", "bbabb")
        inside = [(1, 2), (2, 1), (2, 2), (2, 3), (3, 2)]
        self.check(board, 8, 1, inside, 1)
        for number in range(how_many(board, 4)):
            self.check(board, 4, number, [], 0)

    def test_a_hole_over_a_corner_from_another(self):
        board = ("aaaa", "abaa", "aaba", "aaaa")
        self.check(board, 4, 0, [(1, 1), (2, 2)], 1)
        self.check(board, 8, 0, [(1, 1), (2, 2)], 2)
        board = ("aaaa", "abaa", "aaca", "aaaa")
        self.check(board, 4, 0, [(1, 1), (2, 2)], 1)
        self.check(board, 8, 0, [(1, 1), (2, 2)], 2)

    def test_from_a_hole_over_a_corner_past_the_edge(self):
        board = ("aaab", "aaba", "abaa", "aaaa")
        self.check(board, 4, 0, [], 0)
        self.check(board, 8, 0, [(1, 2), (2, 1)], 2)

    def test_at_the_edge(self):
        for ways in samples.BOTH_WAYS:
            for board in [("aba", "aaa"), ("aaa", "aba"), ("aa", "ba", "aa"), ("aa", "ab", "aa"), ("aba",)]:
                self.check(board, ways, 0, [], 0)
            self.check(("bbb", "aaa", "bbb"), ways, 1, [], 0)
            self.check(("aaaa", "abba", "acaa"), ways, 0, [], 0)

    def test_without_holes(self):
        for rows, width in samples.SIZES:
            for ways in samples.BOTH_WAYS:
                self.check(("e" * width,) * rows, ways, 0, [], 0)
        for ways in samples.BOTH_WAYS:
            for number in range(how_many(samples.SNAKE, ways)):
                self.check(samples.SNAKE, ways, number, [], 0)

    def test_whatever_their_letters(self):
        for ways in samples.BOTH_WAYS:
            five = [(row, column) for row in range(1, 6) for column in range(1, 6)]
            three = [(row, column) for row in range(2, 5) for column in range(2, 5)]
            self.check(samples.NESTED, ways, 0, five, 1)
            self.check(samples.NESTED, ways, 1, three, 1)
            self.check(samples.NESTED, ways, 2, [(3, 3)], 1)
            self.check(samples.NESTED, ways, 3, [], 0)

    def test_one_hole_of_several_patches(self):
        board = ("aaaaa", "abcba", "adeda", "abfba", "aaaaa")
        inside = [(row, column) for row in (1, 2, 3) for column in (1, 2, 3)]
        for ways in samples.BOTH_WAYS:
            self.check(board, ways, 0, inside, 1)

    def check_board(self, board, ways):
        for number, patch in enumerate(samples.plain_patches(board, ways)):
            wanted = samples.plain_shut_in(board, ways, patch)
            self.check(board, ways, number, wanted, samples.plain_groups(wanted, 12 - ways))

    def test_many_boards(self):
        for board in samples.sample_boards() + [GAP, samples.NESTED, RING]:
            for ways in samples.BOTH_WAYS:
                self.check_board(board, ways)

    def test_every_small_board(self):
        for board in samples.every_board(3, 3):
            for ways in samples.BOTH_WAYS:
                self.check_board(board, ways)

    def test_a_drawn_patch_in_the_midst(self):
        # Of two letters, with an edge of one of them, holes are many.
        found = 0
        for board in samples.drawn_boards(10, [(4, 4), (5, 5), (6, 6)]):
            width = len(board[0]) + 2
            board = ("a" * width,) + tuple("a" + row + "a" for row in board) + ("a" * width,)
            for ways in samples.BOTH_WAYS:
                self.check_board(board, ways)
                found += holes(board, ways, 0) > 1
        self.assertGreater(found, 20)

    def test_kinds(self):
        for ways in samples.BOTH_WAYS:
            self.assertIs(type(shut_in(RING, ways, 0)), list)
            self.assertIs(type(shut_in(RING, ways, 2)), list)
            self.assertIs(type(holes(RING, ways, 0)), int)


class TestTouching(unittest.TestCase):
    def test_known_boards(self):
        self.assertEqual(touching(BENT, 4), [((0, 1), 3), ((0, 2), 2), ((1, 3), 1), ((2, 3), 1)])
        self.assertEqual(touching(BENT, 8), [((0, 1), 7)])
        for ways in samples.BOTH_WAYS:
            self.assertEqual(touching(RING, ways), [((0, 1), 12), ((1, 2), 4)])
            self.assertEqual(touching(("abcd",), ways), [((0, 1), 1), ((1, 2), 1), ((2, 3), 1)])
            self.assertEqual(touching(("ab", "ab"), ways), [((0, 1), 2)])

    def test_corners_share_no_side(self):
        self.assertEqual(touching(("ab", "cd"), 8), [((0, 1), 1), ((0, 2), 1), ((1, 3), 1), ((2, 3), 1)])
        self.assertEqual(touching(("ab", "cd"), 4), [((0, 1), 1), ((0, 2), 1), ((1, 3), 1), ((2, 3), 1)])

    def test_over_corners_one_letter_comes_once(self):
        self.assertEqual(touching(("ab", "ba"), 4), [((0, 1), 1), ((0, 2), 1), ((1, 3), 1), ((2, 3), 1)])
        self.assertEqual(touching(("ab", "ba"), 8), [((0, 1), 4)])
        self.assertEqual(touching(STEPS, 8), [((0, 1), 8)])
        self.assertEqual(touching(samples.CHECKERED, 8), [((0, 1), 112)])

    def test_one_patch_alone(self):
        for ways in samples.BOTH_WAYS:
            self.assertEqual(touching(("a",), ways), [])
            self.assertEqual(touching(("bb", "bb"), ways), [])

    def test_rising(self):
        # Pairs are met in another order than that of their numbers.
        board = ("abc", "adc", "aaa")
        for ways in samples.BOTH_WAYS:
            wanted = [((0, 1), 1), ((0, 2), 1), ((0, 3), 2), ((1, 2), 1), ((1, 3), 1), ((2, 3), 1)]
            self.assertEqual(touching(board, ways), wanted)
        board = tuple("abcdefab"[row:] + "abcdefab"[:row] for row in range(8))
        told = touching(board, 4)
        self.assertEqual(told, sorted(told))
        self.assertGreater(max(pair[1] for pair, sides in told), 10)

    def test_many_boards(self):
        for board in samples.sample_boards(5):
            for ways in samples.BOTH_WAYS:
                told = touching(board, ways)
                self.assertEqual(told, samples.plain_touching(board, ways), (board, ways))
                pairs = [pair for pair, sides in told]
                self.assertEqual(len(set(pairs)), len(pairs))
                self.assertTrue(all(pair[0] < pair[1] for pair in pairs))

    def test_kinds(self):
        told = touching(BENT, 4)
        self.assertIs(type(told), list)
        self.assertTrue(all(type(part) is tuple and type(part[0]) is tuple for part in told))
        self.assertTrue(all(type(part[1]) is int for part in told))


class TestGreatest(unittest.TestCase):
    def test_known_boards(self):
        for ways in samples.BOTH_WAYS:
            self.assertEqual(greatest(("a",), ways), 0)
            self.assertEqual(greatest(("abb",), ways), 1)
            self.assertEqual(greatest(("aab",), ways), 0)
            self.assertEqual(greatest(("abcc",), ways), 2)
            self.assertEqual(greatest(("a", "b", "b"), ways), 1)
        self.assertEqual(greatest(BENT, 4), 1)

    def test_the_first_of_several(self):
        for ways in samples.BOTH_WAYS:
            self.assertEqual(greatest(("ab",), ways), 0)
            self.assertEqual(greatest(("abbcc",), ways), 1)
            self.assertEqual(greatest(("abbcca",), ways), 1)
            self.assertEqual(greatest(("aabbc",), ways), 0)
        self.assertEqual(greatest(samples.CHECKERED, 4), 0)
        self.assertEqual(greatest(samples.CHECKERED, 8), 0)

    def test_otherwise_over_corners(self):
        self.assertEqual(greatest(("abb", "caa", "cac"), 4), 3)
        self.assertEqual(greatest(("abb", "cca", "cac"), 4), 2)
        self.assertEqual(greatest(("bba", "ccb", "cba"), 4), 2)
        self.assertEqual(greatest(("bba", "ccb", "cba"), 8), 0)

    def test_many_boards(self):
        for board in samples.sample_boards(5):
            for ways in samples.BOTH_WAYS:
                lengths = [len(patch) for patch in samples.plain_patches(board, ways)]
                told = greatest(board, ways)
                self.assertIs(type(told), int)
                self.assertEqual(lengths[told], max(lengths), (board, ways))
                self.assertNotIn(max(lengths), lengths[:told], (board, ways))


class TestAtEdge(unittest.TestCase):
    def test_one_row_or_column(self):
        for ways in samples.BOTH_WAYS:
            self.assertEqual(at_edge(("a",), ways), [0])
            self.assertEqual(at_edge(("abca",), ways), [0, 1, 2, 3])
            self.assertEqual(at_edge(("a", "b", "b", "c"), ways), [0, 1, 2])
            board = ("abcdefab", "bcdefabc")
            self.assertEqual(at_edge(board, ways), list(range(how_many(board, ways))))

    def test_a_patch_inside(self):
        for ways in samples.BOTH_WAYS:
            self.assertEqual(at_edge(("aaa", "aba", "aaa"), ways), [0])
            self.assertEqual(at_edge(RING, ways), [0])
            self.assertEqual(at_edge(samples.NESTED, ways), [0])
            self.assertEqual(at_edge(("aaaa", "abca", "aada"), ways), [0, 3])
        self.assertEqual(at_edge(("aaaa", "abca", "aaba"), 4), [0, 3])
        self.assertEqual(at_edge(("aaaa", "abca", "aaba"), 8), [0, 1])

    def test_each_edge(self):
        middle = ("aaa", "aba", "aaa")
        for cell in [(0, 1), (1, 0), (1, 2), (2, 1)]:
            board = samples.plain_marked(middle, [cell], "b")
            for ways in samples.BOTH_WAYS:
                self.assertEqual(at_edge(board, ways), [0, 1])

    def test_many_boards(self):
        for board in samples.sample_boards(5):
            rows, width = len(board), len(board[0])
            for ways in samples.BOTH_WAYS:
                wanted = []
                for number, patch in enumerate(samples.plain_patches(board, ways)):
                    outside = [side for cell in patch for side in samples.steps_from(cell, 4)]
                    if any(not (0 <= row < rows and 0 <= column < width) for row, column in outside):
                        wanted.append(number)
                told = at_edge(board, ways)
                self.assertEqual(told, wanted, (board, ways))
                self.assertIs(type(told), list)


class TestRefusals(unittest.TestCase):
    def test_no_board(self):
        for thing in samples.no_boards():
            for function in OF_A_NUMBER:
                with self.assertRaises(NoBoard, msg=repr(thing)):
                    function(thing, 4, 0)
            for function in OF_A_BOARD:
                with self.assertRaises(NoBoard, msg=repr(thing)):
                    function(thing, 4)

    def test_no_ways(self):
        for thing in samples.no_ways():
            for function in OF_A_NUMBER:
                with self.assertRaises(NoWays, msg=repr(thing)):
                    function(BENT, thing, 0)
            for function in OF_A_BOARD:
                with self.assertRaises(NoWays, msg=repr(thing)):
                    function(BENT, thing)

    def test_no_number(self):
        for board in [BENT, ("a",), RING, samples.CHECKERED]:
            for ways in samples.BOTH_WAYS:
                many = len(patches(board, ways))
                for thing in samples.no_numbers(0, many - 1):
                    for function in OF_A_NUMBER:
                        with self.assertRaises(NoNumber, msg=(function.__name__, board, ways, thing)):
                            function(board, ways, thing)

    def test_all_numbers_are_taken(self):
        for ways in samples.BOTH_WAYS:
            for number in range(how_many(BENT, ways)):
                for function in OF_A_NUMBER:
                    self.assertIsNotNone(function(BENT, ways, number))

    def test_a_number_by_the_other_ways(self):
        self.assertEqual(size(BENT, 4, 3), 1)
        with self.assertRaises(NoNumber):
            size(BENT, 8, 3)


if __name__ == "__main__":
    unittest.main()
