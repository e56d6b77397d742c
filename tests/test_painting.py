"""[4.1] A patch painted over, a cell's change, what holds patches together. [4.2] Paints one by one, the fewest."""

import unittest
from itertools import product

import samples
from cellpatches.errors import NoBoard, NoCell, NoLetter, NoWays
from cellpatches.painting import change, cuts, fewest_paints, painted, paints_over

LETTERS = "abcdef"

BENT = (
    "aab",
    "bab",
    "abb",
)

SMALL_SIZES = [
    (1, 1), (1, 2), (2, 1), (2, 2), (1, 5), (5, 1), (1, 8), (8, 1), (2, 3), (3, 2), (3, 3), (2, 5), (5, 2),
    (2, 6), (6, 2), (3, 4), (4, 3),
]


class TestPainted(unittest.TestCase):
    def test_another_letter(self):
        self.assertEqual(painted(BENT, (0, 0), 4, "c"), ("ccb", "bcb", "abb"))
        self.assertEqual(painted(BENT, (0, 0), 8, "c"), ("ccb", "bcb", "cbb"))
        self.assertEqual(painted(BENT, (1, 1), 4, "b"), ("bbb", "bbb", "abb"))
        self.assertEqual(painted(BENT, (1, 0), 4, "a"), ("aab", "aab", "abb"))
        self.assertEqual(painted(BENT, (1, 0), 8, "a"), ("aaa", "aaa", "aaa"))
        self.assertEqual(painted(BENT, (2, 2), 4, "f"), ("aaf", "baf", "aff"))
        self.assertEqual(painted(("a",), (0, 0), 4, "b"), ("b",))

    def test_its_own_letter(self):
        for ways in samples.BOTH_WAYS:
            for row, column in samples.plain_cells(BENT):
                self.assertEqual(painted(BENT, (row, column), ways, BENT[row][column]), BENT)

    def test_many_boards(self):
        for board in samples.sample_boards(2):
            for ways in samples.BOTH_WAYS:
                for cell, letter in zip(samples.plain_cells(board), LETTERS * 11):
                    wanted = samples.plain_painted(board, cell, ways, letter)
                    self.assertEqual(painted(board, cell, ways, letter), wanted, (board, cell, ways, letter))

    def test_every_letter(self):
        for letter in LETTERS:
            for ways in samples.BOTH_WAYS:
                told = painted(samples.SIX_LETTERS, (1, 2), ways, letter)
                self.assertEqual(told, samples.plain_painted(samples.SIX_LETTERS, (1, 2), ways, letter))
                self.assertIs(type(told), tuple)
                self.assertTrue(all(type(row) is str for row in told))


class TestChange(unittest.TestCase):
    def test_its_own_letter(self):
        for board in [BENT, ("a",), samples.CHECKERED]:
            for ways in samples.BOTH_WAYS:
                for row, column in samples.plain_cells(board):
                    self.assertEqual(change(board, (row, column), ways, board[row][column]), 0)

    def test_to_more(self):
        for ways in samples.BOTH_WAYS:
            self.assertEqual(change(("aaa",), (0, 1), ways, "b"), 2)
            self.assertEqual(change(("aaa",), (0, 0), ways, "b"), 1)
            self.assertEqual(change(("aaa", "aaa", "aaa"), (1, 1), ways, "b"), 1)
        self.assertEqual(change(("bab", "aaa", "bab"), (1, 1), 4, "c"), 4)
        self.assertEqual(change(("bab", "aaa", "bab"), (1, 1), 8, "c"), 1)

    def test_to_fewer(self):
        for ways in samples.BOTH_WAYS:
            self.assertEqual(change(("aba",), (0, 1), ways, "a"), -2)
            self.assertEqual(change(("abb",), (0, 0), ways, "b"), -1)
            self.assertEqual(change(("aba", "bab", "aba"), (1, 1), 4, "b"), -4)
        self.assertEqual(change(("aca", "cbc", "aca"), (1, 1), 8, "a"), -4)
        self.assertEqual(change(("aca", "cbc", "aca"), (1, 1), 4, "a"), 0)

    def test_to_as_many(self):
        for ways in samples.BOTH_WAYS:
            self.assertEqual(change(("a",), (0, 0), ways, "f"), 0)
            self.assertEqual(change(("ab",), (0, 0), ways, "c"), 0)
            self.assertEqual(change(("aab",), (0, 1), ways, "b"), 0)

    def test_the_cell_alone(self):
        # Not its whole patch, which would leave one patch.
        self.assertEqual(change(("aaab",), (0, 0), 4, "b"), 1)
        self.assertEqual(change(("aaab",), (0, 2), 4, "b"), 0)

    def test_many_boards(self):
        for board in samples.drawn_boards(2):
            for ways in samples.BOTH_WAYS:
                many = len(samples.plain_patches(board, ways))
                for cell, letter in zip(samples.plain_cells(board)[::5], LETTERS * 11):
                    then = samples.plain_marked(board, [cell], letter)
                    wanted = len(samples.plain_patches(then, ways)) - many
                    told = change(board, cell, ways, letter)
                    self.assertEqual(told, wanted, (board, cell, ways, letter))
                    self.assertIs(type(told), int)


def plain_cuts(board, ways):
    told = []
    for patch in samples.plain_patches(board, ways):
        for cell in patch:
            if samples.plain_groups(set(patch) - {cell}, ways) > 1:
                told.append(cell)
    return sorted(told)


class TestCuts(unittest.TestCase):
    def test_a_bridge(self):
        board = ("aacaa", "aaaaa", "aacaa")
        self.assertEqual(cuts(board, 4), [(1, 1), (1, 2), (1, 3)])
        self.assertEqual(cuts(board, 8), [(1, 2)])
        board = ("abb", "aab", "bba")
        self.assertEqual(cuts(board, 4), [(0, 2), (1, 0)])
        self.assertEqual(cuts(board, 8), [(1, 1), (1, 2), (2, 1)])

    def test_a_ring(self):
        for ways in samples.BOTH_WAYS:
            self.assertEqual(cuts(("aaa", "aba", "aaa"), ways), [])
            self.assertEqual(cuts(("aaaa", "abca", "aaaa"), ways), [])
        self.assertEqual(cuts(("bab", "aca", "bab"), 8), [])
        self.assertEqual(cuts(("baa", "aca", "aaa"), 8), [])
        self.assertEqual(cuts(("baa", "aca", "aaa"), 4), [(0, 2), (1, 2), (2, 0), (2, 1), (2, 2)])

    def test_a_row_of_three(self):
        for ways in samples.BOTH_WAYS:
            self.assertEqual(cuts(("aaa",), ways), [(0, 1)])
            self.assertEqual(cuts(("a", "a", "a"), ways), [(1, 0)])
            self.assertEqual(cuts(("abbba",), ways), [(0, 2)])
        self.assertEqual(cuts(("abc", "bad", "cfa"), 8), [(1, 1)])
        self.assertEqual(cuts(("abc", "bad", "cfa"), 4), [])

    def test_one_cell_and_two(self):
        for ways in samples.BOTH_WAYS:
            for board in [("a",), ("ab",), ("aa",), ("a", "a"), ("aabb",), ("ab", "ab"), ("ab", "ba"), ("abcdef",)]:
                self.assertEqual(cuts(board, ways), [])

    def test_full_boards(self):
        for rows, width in samples.SIZES:
            board = ("a" * width,) * rows
            wanted = samples.plain_cells(board)[1:-1] if 1 in (rows, width) else []
            for ways in samples.BOTH_WAYS:
                self.assertEqual(cuts(board, ways), wanted)

    def test_rising_over_all_patches(self):
        for ways in samples.BOTH_WAYS:
            self.assertEqual(cuts(("ab",) * 4, ways), [(1, 0), (1, 1), (2, 0), (2, 1)])

    def test_many_boards(self):
        for board in samples.sample_boards(4):
            for ways in samples.BOTH_WAYS:
                told = cuts(board, ways)
                self.assertEqual(told, plain_cuts(board, ways), (board, ways))
                self.assertIs(type(told), list)

    def test_every_small_board(self):
        for board in samples.every_board(3, 3):
            for ways in samples.BOTH_WAYS:
                self.assertEqual(cuts(board, ways), plain_cuts(board, ways), (board, ways))


class TestPaintsOver(unittest.TestCase):
    def test_none(self):
        for board in samples.sample_boards(1):
            for ways in samples.BOTH_WAYS:
                self.assertEqual(paints_over(board, ways, []), board)

    def test_one_letter(self):
        self.assertEqual(paints_over(BENT, 4, ["b"]), ("bbb", "bbb", "abb"))
        self.assertEqual(paints_over(BENT, 8, ["b"]), ("bbb", "bbb", "bbb"))
        self.assertEqual(paints_over(BENT, 4, ["c"]), ("ccb", "bcb", "abb"))
        self.assertEqual(paints_over(BENT, 4, ["a"]), BENT)

    def test_several(self):
        self.assertEqual(paints_over(BENT, 4, ["c", "b", "a"]), ("aaa", "aaa", "aaa"))
        self.assertEqual(paints_over(BENT, 4, ["b", "d"]), ("ddd", "ddd", "add"))
        self.assertEqual(paints_over(("abcd",), 4, ["b", "c"]), ("cccd",))
        self.assertEqual(paints_over(("abcd",), 4, ["c", "b"]), ("bbcd",))
        self.assertEqual(paints_over(("ac", "cb"), 4, ["b"]), ("bc", "cb"))
        self.assertEqual(paints_over(("ac", "cb"), 8, ["b"]), ("bc", "cb"))
        self.assertEqual(paints_over(("ac", "cb"), 8, ["b", "c"]), ("cc", "cc"))

    def test_a_letter_twice(self):
        self.assertEqual(paints_over(("abab",), 4, ["b", "b"]), ("bbab",))
        self.assertEqual(paints_over(("abab",), 4, ["b", "a", "b"]), ("bbbb",))
        self.assertEqual(paints_over(("aab",), 4, ["c", "a"]), ("aab",))

    def test_many_boards(self):
        lists = [["a"], ["f", "a"], ["b", "c", "b", "a"], list(LETTERS), list(LETTERS) * 3, ["d", "d", "c"]]
        for board in samples.drawn_boards(2):
            for ways, letters in product(samples.BOTH_WAYS, lists):
                wanted = board
                for letter in letters:
                    wanted = samples.plain_painted(wanted, (0, 0), ways, letter)
                told = paints_over(board, ways, letters)
                self.assertEqual(told, wanted, (board, ways, letters))
                self.assertIs(type(told), tuple)

    def test_the_list_is_as_it_was(self):
        for letters in [[], ["b"], ["b", "a", "a", "c"]]:
            kept = list(letters)
            paints_over(BENT, 4, letters)
            self.assertEqual(letters, kept)
        letters = ["b", "g", "a"]
        with self.assertRaises(NoLetter):
            paints_over(BENT, 4, letters)
        self.assertEqual(letters, ["b", "g", "a"])


class TestFewestPaints(unittest.TestCase):
    def check(self, board, ways):
        told = fewest_paints(board, ways)
        self.assertIs(type(told), list)
        self.assertTrue(all(type(letter) is str and len(letter) == 1 and letter in LETTERS for letter in told))
        then = board
        for letter in told:
            then = samples.plain_painted(then, (0, 0), ways, letter)
        self.assertTrue(samples.is_one_letter(then), (board, ways, told))
        self.assertEqual(paints_over(board, ways, told), then)
        self.assertEqual(len(told), samples.plain_fewest(board, ways), (board, ways, told))

    def test_one_letter(self):
        for rows, width in samples.SIZES:
            for ways in samples.BOTH_WAYS:
                for letter in LETTERS:
                    self.assertEqual(fewest_paints((letter * width,) * rows, ways), [])

    def test_only_one_does_it(self):
        for ways in samples.BOTH_WAYS:
            self.assertEqual(fewest_paints(("ab",), ways), ["b"])
            self.assertEqual(fewest_paints(("abcd",), ways), ["b", "c", "d"])
            self.assertEqual(fewest_paints(("a", "b", "c", "d"), ways), ["b", "c", "d"])
            self.assertEqual(fewest_paints(("abab",), ways), ["b", "a", "b"])
        self.assertEqual(fewest_paints(("ab", "ba"), 8), ["b"])
        self.assertEqual(fewest_paints(("ab", "ba"), 4), ["b", "a"])
        self.assertEqual(fewest_paints(("ac", "cb"), 4), ["c", "b"])

    def test_two_at_once(self):
        for ways in samples.BOTH_WAYS:
            self.assertEqual(fewest_paints(("bab", "aaa", "bab"), ways), ["a", "b"])
            self.assertEqual(len(fewest_paints(("ab", "ac"), ways)), 2)

    def test_not_the_most_cells_at_once(self):
        # The b's are the most cells that the first paint can draw in.
        for ways in samples.BOTH_WAYS:
            self.check(("abbb", "cbbb", "dcbb"), ways)
            self.check(("abbd", "cbbd", "dcbb"), ways)

    def test_drawn_boards(self):
        for board in samples.drawn_boards(10, SMALL_SIZES):
            for ways in samples.BOTH_WAYS:
                self.check(board, ways)

    def test_every_small_board(self):
        for rows, width, letters in [(1, 4, "abcd"), (2, 2, "abcd"), (2, 3, "abc"), (3, 3, "ab")]:
            for board in samples.every_board(rows, width, letters):
                for ways in samples.BOTH_WAYS:
                    self.check(board, ways)

    def test_somewhat_more_cells(self):
        for board in [("abcd", "dabc", "cdab", "bcda"), ("abcab", "cabca", "bcabc")]:
            for ways in samples.BOTH_WAYS:
                self.check(board, ways)
        self.assertEqual(fewest_paints(samples.SNAKE, 4), ["b"])
        self.assertEqual(fewest_paints(samples.CHECKERED, 8), ["b"])


class TestRefusals(unittest.TestCase):
    def test_no_board(self):
        for thing in samples.no_boards():
            for function in (painted, change):
                with self.assertRaises(NoBoard, msg=repr(thing)):
                    function(thing, (0, 0), 4, "a")
            for function in (cuts, fewest_paints):
                with self.assertRaises(NoBoard, msg=repr(thing)):
                    function(thing, 4)
            with self.assertRaises(NoBoard, msg=repr(thing)):
                paints_over(thing, 4, [])

    def test_no_cell(self):
        for board in [BENT, ("a",), ("ab",), ("a", "b")]:
            for thing in samples.no_cells(board):
                for function in (painted, change):
                    with self.assertRaises(NoCell, msg=(board, thing)):
                        function(board, thing, 4, "a")

    def test_no_ways(self):
        for thing in samples.no_ways():
            for function in (painted, change):
                with self.assertRaises(NoWays, msg=repr(thing)):
                    function(BENT, (0, 0), thing, "a")
            for function in (cuts, fewest_paints):
                for board in (BENT, ("a",)):
                    with self.assertRaises(NoWays, msg=repr(thing)):
                        function(board, thing)
            with self.assertRaises(NoWays, msg=repr(thing)):
                paints_over(BENT, thing, [])

    def test_no_letter(self):
        for thing in samples.no_letters():
            for function in (painted, change):
                with self.assertRaises(NoLetter, msg=repr(thing)):
                    function(BENT, (0, 0), 4, thing)

    def test_no_letter_anywhere_in_the_list(self):
        for thing in samples.no_letters():
            for place in range(4):
                letters = ["a", "b", "c"]
                letters.insert(place, thing)
                for board in (BENT, ("a",)):
                    with self.assertRaises(NoLetter, msg=repr(letters)):
                        paints_over(board, 4, letters)
            with self.assertRaises(NoLetter, msg=repr(thing)):
                paints_over(BENT, 8, [thing])

    def test_no_list(self):
        for thing in [None, True, 0, 4, "", "a", "abc", (), ("a",), ("a", "b")]:
            with self.assertRaises(NoLetter, msg=repr(thing)):
                paints_over(BENT, 4, thing)


if __name__ == "__main__":
    unittest.main()
