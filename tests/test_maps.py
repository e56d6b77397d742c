"""[9.1] Neighbours of a patch, borders between two, the middle."""

import unittest

import samples
from cellpatches.errors import NoBoard, NoNumber, NoWays
from cellpatches.maps import borders, middle, neighbours
from cellpatches.patches import how_many

BENT = (
    "aab",
    "bab",
    "abb",
)

# By 8 the d's are one patch, and so are the f's.
CORNERS = (
    "eda",
    "bfd",
    "fab",
)


class TestNeighbours(unittest.TestCase):
    def check(self, board, ways, wanted):
        told = [neighbours(board, ways, number) for number in range(how_many(board, ways))]
        self.assertEqual(told, wanted, (board, ways))

    def test_known_boards(self):
        self.check(BENT, 4, [[1, 2], [0, 3], [0, 3], [1, 2]])
        self.check(BENT, 8, [[1], [0]])
        for ways in samples.BOTH_WAYS:
            self.check(("abcd",), ways, [[1], [0, 2], [1, 3], [2]])
            self.check(("a", "b", "a"), ways, [[1], [0, 2], [1]])
            self.check(samples.NESTED, ways, [[1], [0, 2], [1, 3], [2]])
        self.check(("aba", "bbb", "aba"), 4, [[1], [0, 2, 3, 4], [1], [1], [1]])

    def test_none(self):
        for ways in samples.BOTH_WAYS:
            for board in (("a",), ("ff", "ff"), ("c" * 8,) * 8):
                self.check(board, ways, [[]])

    def test_each_once(self):
        for ways in samples.BOTH_WAYS:
            self.check(("aaaa", "bbbb"), ways, [[1], [0]])
            self.check(("aaa", "aba", "aaa"), ways, [[1], [0]])

    def test_rising(self):
        for ways in samples.BOTH_WAYS:
            self.check(("bac", "aaa", "dae"), ways, [[1], [0, 2, 3, 4], [1], [1], [1]])
        self.check(("cabd", "eaab"), 4, [[1, 4], [0, 2, 4, 5], [1, 3], [2, 5], [0, 1], [1, 3]])
        self.check(("cabd", "eaab"), 8, [[1, 4], [0, 2, 4], [1, 3], [2], [0, 1]])

    def test_over_sides_alone(self):
        for ways in samples.BOTH_WAYS:
            self.check(("ab", "cd"), ways, [[1, 2], [0, 3], [0, 3], [1, 2]])
            self.assertEqual(neighbours(("abc", "def", "abd"), ways, 4), [1, 3, 5, 7])

    def test_many_boards(self):
        for board in samples.sample_boards(3):
            for ways in samples.BOTH_WAYS:
                for number, near in samples.plain_neighbours(board, ways).items():
                    told = neighbours(board, ways, number)
                    self.assertEqual(told, sorted(near), (board, ways, number))
                    self.assertIs(type(told), list)


class TestBorders(unittest.TestCase):
    def test_of_one_itself(self):
        for board in (("a",), BENT, samples.NESTED, samples.CHECKERED):
            for ways in samples.BOTH_WAYS:
                for number in range(how_many(board, ways)):
                    self.assertEqual(borders(board, ways, number, number), 0)

    def test_of_neighbours(self):
        for one, other in [(0, 1), (0, 2), (1, 3), (2, 3)]:
            self.assertEqual(borders(BENT, 4, one, other), 1)
            self.assertEqual(borders(BENT, 4, other, one), 1)
        self.assertEqual(borders(BENT, 8, 0, 1), 1)
        self.assertEqual(borders(samples.CHECKERED, 8, 1, 0), 1)

    def test_farther_away(self):
        self.assertEqual(borders(BENT, 4, 0, 3), 2)
        self.assertEqual(borders(BENT, 4, 1, 2), 2)
        self.assertEqual(borders(samples.CHECKERED, 4, 0, 63), 14)
        for ways in samples.BOTH_WAYS:
            for one in range(6):
                for other in range(6):
                    self.assertEqual(borders(("abcdef",), ways, one, other), abs(one - other))
            self.assertEqual(borders(("abab", "cccc"), ways, 0, 3), 2)

    def test_one_within_another(self):
        for ways in samples.BOTH_WAYS:
            self.assertEqual([borders(samples.NESTED, ways, 0, number) for number in range(4)], [0, 1, 2, 3])
            self.assertEqual([borders(samples.NESTED, ways, 3, number) for number in range(4)], [3, 2, 1, 0])

    def test_not_over_corners(self):
        for ways in samples.BOTH_WAYS:
            self.assertEqual(borders(("ab", "cd"), ways, 0, 3), 2)
            self.assertEqual(borders(("ab", "cd"), ways, 1, 2), 2)

    def test_none_within_a_patch_over_corners(self):
        self.assertEqual(borders(CORNERS, 8, 0, 6), 2)
        self.assertEqual(borders(CORNERS, 4, 0, 8), 4)

    def test_many_boards(self):
        for board in samples.sample_boards(1):
            for ways in samples.BOTH_WAYS:
                for (one, other), wanted in list(samples.plain_borders(board, ways).items())[::7]:
                    told = borders(board, ways, one, other)
                    self.assertEqual(told, wanted, (board, ways, one, other))
                    self.assertIs(type(told), int)

    def test_every_pair(self):
        for board in samples.drawn_boards(5, [(2, 3), (3, 3), (4, 4), (3, 5)]):
            for ways in samples.BOTH_WAYS:
                for (one, other), wanted in samples.plain_borders(board, ways).items():
                    self.assertEqual(borders(board, ways, one, other), wanted, (board, ways, one, other))


class TestMiddle(unittest.TestCase):
    def test_one_patch(self):
        for ways in samples.BOTH_WAYS:
            for board in (("a",), ("ff", "ff"), ("c" * 8,) * 8):
                self.assertEqual(middle(board, ways), 0)

    def test_a_row_of_patches(self):
        for ways in samples.BOTH_WAYS:
            for many in range(1, 9):
                board = ("abcdefab"[:many],)
                self.assertEqual(middle(board, ways), (many - 1) // 2)
                self.assertEqual(middle(tuple(board[0]), ways), (many - 1) // 2)
            self.assertEqual(middle(("aaaaaabc",), ways), 1)
            self.assertEqual(middle(("abbbbbbb",), ways), 0)

    def test_the_first_of_several(self):
        self.assertEqual(middle(BENT, 4), 0)
        self.assertEqual(middle(BENT, 8), 0)
        for ways in samples.BOTH_WAYS:
            self.assertEqual(middle(("abcd",), ways), 1)
            self.assertEqual(middle(samples.NESTED, ways), 1)
            self.assertEqual(middle(("ab", "cd"), ways), 0)

    def test_not_the_greatest_and_not_the_first(self):
        for ways in samples.BOTH_WAYS:
            self.assertEqual(middle(("bac", "aaa", "dae"), ways), 1)
            self.assertEqual(middle(("aaaabcd",), ways), 1)
            # From each of these some patch is two borders away.
            self.assertEqual(middle(("aaaa", "bcde", "ffff"), ways), 0)
            self.assertEqual(middle(("aaaaa", "bcdef", "bcdef"), ways), 0)
            self.assertEqual(middle(("bcdef", "bcdef", "aaaaa"), ways), 5)

    def test_by_the_ways(self):
        self.assertEqual(middle(samples.CHECKERED, 8), 0)
        self.assertEqual(middle(samples.CHECKERED, 4), 27)

    def test_many_boards(self):
        for board in samples.sample_boards(3):
            for ways in samples.BOTH_WAYS:
                far = samples.plain_borders(board, ways)
                numbers = sorted({one for one, _ in far})
                wanted = min(numbers, key=lambda one: (max(far[one, other] for other in numbers), one))
                told = middle(board, ways)
                self.assertEqual(told, wanted, (board, ways))
                self.assertIs(type(told), int)


class TestRefusals(samples.Refusing):
    def test_no_board(self):
        for thing in samples.no_boards():
            self.refused(NoBoard, neighbours, thing, 4, 0)
            self.refused(NoBoard, borders, thing, 4, 0, 0)
            self.refused(NoBoard, middle, thing, 4)

    def test_no_ways(self):
        for thing in samples.no_ways():
            for board in (BENT, ("a",)):
                self.refused(NoWays, neighbours, board, thing, 0)
                self.refused(NoWays, borders, board, thing, 0, 0)
                self.refused(NoWays, middle, board, thing)

    def test_no_number(self):
        for board in (BENT, ("a",), samples.CHECKERED):
            for ways in samples.BOTH_WAYS:
                many = how_many(board, ways)
                bad = samples.no_numbers(0, many - 1) + [-1, many, True, False, None, "0", "", [0], [], (0,), ()]
                for thing in bad:
                    self.refused(NoNumber, neighbours, board, ways, thing)
                    self.refused(NoNumber, borders, board, ways, thing, 0)
                    self.refused(NoNumber, borders, board, ways, 0, thing)
                    self.refused(NoNumber, borders, board, ways, thing, thing)

    def test_a_number_of_these_ways(self):
        self.assertEqual(neighbours(BENT, 4, 3), [1, 2])
        self.refused(NoNumber, neighbours, BENT, 8, 3)
        self.refused(NoNumber, borders, BENT, 8, 0, 3)


if __name__ == "__main__":
    unittest.main()
