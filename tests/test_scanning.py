"""[6.1] Pairs of numbers over the seam of two boards, how many patches they have together, of what sizes."""

import unittest
from itertools import product

import samples
from cellpatches.errors import NoBoard, NoFit, NoWays
from cellpatches.scanning import how_many_together, seam, sizes_together

ALL = (seam, how_many_together, sizes_together)

# A comb: its teeth are three patches, which hang together over the board below alone.
TEETH = ("abaca", "abaca")
BACK = ("aaaaa",)


def plain_seam(one, other, ways):
    """Every cell of the one beside every cell of the other on the board of both."""
    above = samples.plain_number_at(one, ways)
    below = samples.plain_number_at(other, ways)
    pairs = set()
    for (row, column), number in above.items():
        for low_row, low_column in samples.steps_from((row, column), ways):
            cell = (low_row - len(one), low_column)
            if cell in below and one[row][column] == other[cell[0]][cell[1]]:
                pairs.add((number, below[cell]))
    return sorted(pairs)


class TestSeam(unittest.TestCase):
    def test_one_pair(self):
        for ways in samples.BOTH_WAYS:
            self.assertEqual(seam(("a",), ("a",), ways), [(0, 0)])
            self.assertEqual(seam(("ab",), ("cb",), ways), [(1, 1)])
            self.assertEqual(seam(("bc", "aa"), ("ab",), ways), [(2, 0)])
            self.assertEqual(seam(("ab",), ("ca", "cb"), ways), [(0, 1)] if ways == 8 else [])

    def test_once_where_several_cells_meet(self):
        for ways in samples.BOTH_WAYS:
            self.assertEqual(seam(("aaaa",), ("aaaa",), ways), [(0, 0)])
            self.assertEqual(seam(("aba", "aaa"), ("aba", "aaa"), ways), [(0, 0)])
            self.assertEqual(seam(("aaa", "aba"), ("aba", "aaa"), ways), [(0, 0), (1, 1)])

    def test_of_one_letter_alone(self):
        for ways in samples.BOTH_WAYS:
            self.assertEqual(seam(("abab",), ("cdcd",), ways), [])
            self.assertEqual(seam(("aabb",), ("aacc",), ways), [(0, 0)])
            self.assertEqual(seam(("ccbb",), ("aabb",), ways), [(1, 1)])

    def test_over_a_corner(self):
        self.assertEqual(seam(("ab",), ("ca",), 4), [])
        self.assertEqual(seam(("ab",), ("ca",), 8), [(0, 1)])
        self.assertEqual(seam(("ba",), ("ac",), 4), [])
        self.assertEqual(seam(("ba",), ("ac",), 8), [(1, 0)])
        self.assertEqual(seam(("ab",), ("ba",), 8), [(0, 1), (1, 0)])
        self.assertEqual(seam(("ab",), ("ba",), 4), [])
        # Two columns away is not beside.
        self.assertEqual(seam(("abb",), ("cca",), 8), [])

    def test_not_round_the_edge(self):
        for ways in samples.BOTH_WAYS:
            self.assertEqual(seam(("abcd",), ("eeea",), ways), [])
            self.assertEqual(seam(("eeea",), ("abcd",), ways), [])

    def test_the_rows_at_the_seam_alone(self):
        for ways in samples.BOTH_WAYS:
            self.assertEqual(seam(("aa", "bb"), ("cc", "aa"), ways), [])
            self.assertEqual(seam(("aa", "bb"), ("bb", "aa"), ways), [(1, 0)])
            self.assertEqual(seam(("ab", "cd"), ("ef", "ab"), ways), [])

    def test_rising(self):
        self.assertEqual(seam(TEETH, BACK, 4), [(0, 0), (2, 0), (4, 0)])
        self.assertEqual(seam(BACK, TEETH, 4), [(0, 0), (0, 2), (0, 4)])
        # The second patch of the one comes first in its last row.
        self.assertEqual(seam(("ab", "bb"), ("bb",), 4), [(1, 0)])
        self.assertEqual(seam(("cab", "bab", "bac"), ("bac",), 4), [(1, 1), (3, 0), (4, 2)])
        self.assertEqual(seam(("aab", "bbb", "baa"), ("bab",), 4), [(1, 0), (2, 1)])
        self.assertEqual(seam(("aab", "bbb", "baa"), ("bab",), 8), [(1, 0), (2, 1)])

    def test_numbers_are_each_boards_own(self):
        self.assertEqual(seam(("abc", "def"), ("def", "abc"), 4), [(3, 0), (4, 1), (5, 2)])
        self.assertEqual(seam(("abc", "def"), ("fed", "abc"), 4), [(4, 1)])
        self.assertEqual(seam(("abc", "def"), ("edf", "abc"), 8), [(3, 1), (4, 0), (5, 2)])

    def test_patches_by_the_ways(self):
        # By 8 the two a's of the one are one patch.
        one, other = ("ab", "ba"), ("ba",)
        self.assertEqual(seam(one, other, 4), [(2, 0), (3, 1)])
        self.assertEqual(seam(one, other, 8), [(0, 1), (1, 0)])

    def test_kinds(self):
        told = seam(TEETH, BACK, 4)
        self.assertIs(type(told), list)
        self.assertTrue(all(type(pair) is tuple and len(pair) == 2 for pair in told))

    def test_many_boards(self):
        met = 0
        for board in samples.sample_boards(4):
            for one, other in samples.cut_boards(board):
                for ways in samples.BOTH_WAYS:
                    wanted = plain_seam(one, other, ways)
                    self.assertEqual(seam(one, other, ways), wanted, (one, other, ways))
                    met += len(wanted) > 1
        self.assertGreater(met, 100)


class TestTogether(unittest.TestCase):
    def check(self, one, other, ways, sizes):
        self.assertEqual(how_many_together(one, other, ways), len(sizes), (one, other, ways))
        self.assertEqual(sizes_together(one, other, ways), sizes, (one, other, ways))

    def test_in_one_place(self):
        for ways in samples.BOTH_WAYS:
            self.check(("a",), ("a",), ways, [2])
            self.check(("ab",), ("ac",), ways, [1, 1, 2])
            self.check(("abb",), ("acc",), ways, [2, 2, 2])
        self.check(("ab",), ("ca",), 4, [1, 1, 1, 1])
        self.check(("ab",), ("ca",), 8, [1, 1, 2])

    def test_the_same_two_meet_twice(self):
        self.check(("aaa", "aba"), ("aca",), 4, [1, 1, 7])
        self.check(("aaa", "aba"), ("aca", "aaa"), 4, [1, 1, 10])
        self.check(("aaa", "aba"), ("aca", "aaa"), 8, [1, 1, 10])
        self.check(("aaaa",), ("aaaa",), 4, [8])

    def test_three_become_one(self):
        for ways in samples.BOTH_WAYS:
            self.check(TEETH, BACK, ways, [2, 2, 11])
            self.check(BACK, TEETH, ways, [2, 2, 11])
        # Two of the one and one of the other, which then meet a third one of the one.
        self.check(("abab",), ("aaab",), 4, [1, 2, 5])
        self.check(("abab",), ("baba",), 8, [4, 4])
        self.check(("abab",), ("baba",), 4, [1] * 8)

    def test_a_chain_over_the_seam(self):
        # Each part of the one meets the next one of the other.
        self.check(("aabbaa", "abbbba"), ("aaaaaa", "bbbbbb"), 4, [6, 6, 12])
        self.check(("ababab",), ("bababa",), 8, [6, 6])
        self.check(("aabaa",), ("baaab",), 4, [1, 1, 1, 7])
        self.check(("aabaabaa",), ("baaabaab",), 4, [1, 1, 1, 1, 1, 4, 7])
        self.check(("aabaabaa",), ("baaabaab",), 8, [1, 1, 1, 2, 11])

    def test_a_ring_over_the_seam(self):
        # Two of the one meet two of the other, each of them both: four pairs, and one patch.
        one, other = ("aaaaaaa", "abbbbba", "abaaaba"), ("aaabaaa",)
        for ways in samples.BOTH_WAYS:
            self.assertEqual(seam(one, other, ways), [(0, 0), (0, 2), (2, 0), (2, 2)])
            self.check(one, other, ways, [1, 7, 20])
            self.check(other, one[::-1], ways, [1, 7, 20])

    def test_nowhere(self):
        for ways in samples.BOTH_WAYS:
            self.check(("a",), ("b",), ways, [1, 1])
            self.check(("aab", "aab"), ("ccd",), ways, [1, 2, 2, 4])
            self.check(("aaa", "bbb"), ("ccc", "aaa"), ways, [3, 3, 3, 3])

    def test_sizes_rise_and_like_ones_are_all_there(self):
        for ways in samples.BOTH_WAYS:
            self.check(("aaabccdd",), ("eeefccdd",), ways, [1, 1, 3, 3, 4, 4])
            self.check(("aaaab",), ("ccccc",), ways, [1, 4, 5])
            self.check(("fffffffb",), ("ccddeeab",), ways, [1, 2, 2, 2, 2, 7])

    def test_one_row_and_one_column(self):
        for ways in samples.BOTH_WAYS:
            self.check(("abcdefab",), ("abcdefab",), ways, [2] * 8)
            self.check(("a",) * 4, ("a",) * 4, ways, [8])
            self.check(("a", "b", "b"), ("b", "a"), ways, [1, 1, 3])
            self.check(("a", "b"), ("a", "b"), ways, [1, 1, 1, 1])
            self.assertEqual(seam(("a", "b", "b"), ("b", "a"), ways), [(1, 0)])
            self.assertEqual(seam(("a", "b"), ("a", "b"), ways), [])

    def test_kinds(self):
        self.assertIs(type(how_many_together(TEETH, BACK, 4)), int)
        self.assertIs(type(sizes_together(TEETH, BACK, 4)), list)

    def test_many_boards(self):
        for board in samples.sample_boards(3):
            for ways in samples.BOTH_WAYS:
                wanted = sorted(len(patch) for patch in samples.plain_patches(board, ways))
                for one, other in samples.cut_boards(board):
                    self.check(one, other, ways, wanted)


class TestRefusals(samples.Refusing):
    def all_refused(self, one, other, ways, refusal):
        for function in ALL:
            self.refused(refusal, function, one, other, ways)

    def test_no_board(self):
        for thing in samples.no_boards():
            self.all_refused(thing, ("ab",), 4, NoBoard)
            self.all_refused(("ab",), thing, 8, NoBoard)

    def test_no_ways(self):
        for thing in samples.no_ways():
            self.all_refused(("ab",), ("ab",), thing, NoWays)
            self.all_refused(("ab",), ("abc",), thing, NoWays)

    def test_not_as_wide(self):
        for one, other in product(range(1, 9), repeat=2):
            if one != other:
                for ways in samples.BOTH_WAYS:
                    self.all_refused(("a" * one,), ("a" * other,), ways, NoFit)

    def test_rows_together(self):
        for one, other in product(range(1, 9), repeat=2):
            for ways in samples.BOTH_WAYS:
                above, below = ("ab",) * one, ("ab",) * other
                if one + other > 8:
                    self.all_refused(above, below, ways, NoFit)
                else:
                    self.assertEqual(seam(above, below, ways), [(0, 0), (1, 1)])
                    self.assertEqual(sizes_together(above, below, ways), [one + other] * 2)

    def test_several_at_once(self):
        no_fits = [(("ab",), ("abc",)), (("ab",) * 4, ("ab",) * 5), (("a",) * 8, ("ab",) * 8)]
        no_board = [None, [], ("ab", "a"), ("ab",) * 9, "ab", 4]
        for one, other in no_fits:
            for bad in no_board:
                for ways in (4, 8, None, 5, True, "4"):
                    self.all_refused(bad, other, ways, NoBoard)
                    self.all_refused(one, bad, ways, NoBoard)
                    self.all_refused(bad, bad, ways, NoBoard)
            for ways in (None, 5, True, "4", [4], 12):
                self.all_refused(one, other, ways, NoWays)
            for ways in samples.BOTH_WAYS:
                self.all_refused(one, other, ways, NoFit)


if __name__ == "__main__":
    unittest.main()
