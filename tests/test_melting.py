"""[5.1] The smallest small patch melted, all of them, the boards on the way."""

import unittest

import samples
from cellpatches.errors import NoBoard, NoNumber, NoWays
from cellpatches.melting import melted, melted_once, steps_of

ALL = (melted_once, melted, steps_of)

BENT = (
    "aab",
    "bab",
    "abb",
)


class TestWhichMelts(unittest.TestCase):
    def test_the_smallest(self):
        for ways in samples.BOTH_WAYS:
            for least in (4, 5, 64):
                self.assertEqual(melted_once(("aaabcccc",), ways, least), ("aaaccccc",))
            self.assertEqual(melted_once(("aabccc",), ways, 2), ("aacccc",))
            self.assertEqual(melted_once(("aabccc",), ways, 4), ("aacccc",))
            self.assertEqual(melted_once(("aaab",), ways, 2), ("aaaa",))
            self.assertEqual(melted_once(("aaabb",), ways, 3), ("aaaaa",))

    def test_the_first_of_several(self):
        for ways in samples.BOTH_WAYS:
            self.assertEqual(melted_once(("abcc",), ways, 2), ("bbcc",))
            self.assertEqual(melted_once(("ccab",), ways, 2), ("cccb",))
            self.assertEqual(melted_once(("aaabbcc",), ways, 3), ("aaaaacc",))
            self.assertEqual(melted_once(("ab",), ways, 2), ("bb",))
            self.assertEqual(melted_once(("ab",), ways, 64), ("bb",))

    def test_fewer_cells_than_the_least(self):
        for ways in samples.BOTH_WAYS:
            self.assertIsNone(melted_once(("aabb",), ways, 2))
            self.assertEqual(melted_once(("aabb",), ways, 3), ("bbbb",))
            self.assertIsNone(melted_once(("aaaabbbb", "aaaabbbb"), ways, 8))
            self.assertEqual(melted_once(("aaaabbbb", "aaaabbbb"), ways, 9), ("b" * 8, "b" * 8))


class TestWhichLetter(unittest.TestCase):
    def test_the_most_sides(self):
        for ways in samples.BOTH_WAYS:
            # Three sides with the b's, which are fewer than the c's.
            board = ("ccccc", "cbabc", "cbbbc")
            self.assertEqual(melted_once(board, ways, 2), ("ccccc", "cbbbc", "cbbbc"))
            board = ("cbbbc", "cbabc", "ccccc")
            self.assertEqual(melted_once(board, ways, 2), ("cbbbc", "cbbbc", "ccccc"))

    def test_the_most_cells_of_as_many_sides(self):
        for ways in samples.BOTH_WAYS:
            self.assertEqual(melted_once(("bbaccc",), ways, 2), ("bbcccc",))
            self.assertEqual(melted_once(("bbbacc",), ways, 2), ("bbbbcc",))
            self.assertEqual(melted_once(("bb", "ac", "cc"), ways, 2), ("bb", "cc", "cc"))

    def test_the_first_of_as_many_cells(self):
        for ways in samples.BOTH_WAYS:
            self.assertEqual(melted_once(("bbacc",), ways, 2), ("bbbcc",))
            self.assertEqual(melted_once(("ccabb",), ways, 2), ("cccbb",))
            self.assertEqual(melted_once(("f", "f", "a", "b", "b"), ways, 2), ("f", "f", "f", "b", "b"))

    def test_sides_with_a_patch_not_with_a_letter(self):
        # Two patches of b's share a side each, as the c's do, which have the most cells.
        board = ("bbabb", "bcccb", "ddcdd")
        for ways in samples.BOTH_WAYS:
            self.assertEqual(melted_once(board, ways, 2), ("bbcbb", "bcccb", "ddcdd"))

    def test_sides_not_corners(self):
        # Over corners the a has the d's, which have the most cells, beside it as often as the c's.
        board = ("ddddd", "ddcdd", "dcacd", "ddcdd", "ddddd")
        self.assertEqual(melted_once(board, 8, 2), ("ddddd", "ddcdd", "dcccd", "ddcdd", "ddddd"))
        self.assertEqual(melted_once(board, 4, 2), ("ddddd", "ddddd", "dcacd", "ddcdd", "ddddd"))

    def test_a_patch_over_corners_has_all_its_sides(self):
        # By 8 the b's are one patch with three sides, by 4 three patches with one side each.
        board = ("ddbcc", "ddbcc", "bbacc", "ddbcc", "ddbcc")
        self.assertEqual(melted_once(board, 8, 2), ("ddbcc", "ddbcc", "bbbcc", "ddbcc", "ddbcc"))
        self.assertEqual(melted_once(board, 4, 2), ("ddbcc", "ddbcc", "bbccc", "ddbcc", "ddbcc"))


class TestMelted(unittest.TestCase):
    def check(self, board, ways, least):
        wanted = [board]
        while wanted[-1] is not None:
            wanted.append(samples.plain_melted_once(wanted[-1], ways, least))
        wanted.pop()
        told = steps_of(board, ways, least)
        self.assertIs(type(told), list)
        self.assertEqual(told, wanted, (board, ways, least))
        self.assertEqual(melted(board, ways, least), wanted[-1], (board, ways, least))
        self.assertEqual(melted_once(board, ways, least), (wanted + [None])[1], (board, ways, least))

    def test_known_steps(self):
        self.assertEqual(steps_of(("ab", "ba"), 4, 2), [("ab", "ba"), ("bb", "ba"), ("bb", "bb")])
        self.assertEqual(steps_of(("ab", "ba"), 8, 2), [("ab", "ba")])
        self.assertEqual(steps_of(("ab", "ba"), 8, 3), [("ab", "ba"), ("bb", "bb")])
        for ways in samples.BOTH_WAYS:
            self.assertEqual(steps_of(("abcc",), ways, 2), [("abcc",), ("bbcc",)])
            self.assertEqual(steps_of(("abcc",), ways, 3), [("abcc",), ("bbcc",), ("cccc",)])
            self.assertEqual(steps_of(("aabccc",), ways, 3), [("aabccc",), ("aacccc",), ("cccccc",)])
            self.assertEqual(melted(("aabccc",), ways, 3), ("cccccc",))
            self.assertEqual(melted(("aabccc",), ways, 2), ("aacccc",))

    def test_one_melts_with_two(self):
        for ways in samples.BOTH_WAYS:
            self.assertEqual(steps_of(("bbabb",), ways, 3), [("bbabb",), ("bbbbb",)])

    def test_least_of_one(self):
        for board in samples.sample_boards(1):
            for ways in samples.BOTH_WAYS:
                self.assertIsNone(melted_once(board, ways, 1))
                self.assertEqual(melted(board, ways, 1), board)
                self.assertEqual(steps_of(board, ways, 1), [board])

    def test_the_greatest_least(self):
        for board in samples.sample_boards(1):
            for ways in samples.BOTH_WAYS:
                self.assertTrue(samples.is_one_letter(melted(board, ways, 64)))
                if not samples.is_one_letter(board):
                    self.assertIsNotNone(melted_once(board, ways, 64))

    def test_one_patch_alone(self):
        for rows, width in samples.SIZES:
            board = ("f" * width,) * rows
            for ways in samples.BOTH_WAYS:
                for least in (1, 2, 63, 64):
                    self.assertIsNone(melted_once(board, ways, least))
                    self.assertEqual(melted(board, ways, least), board)
                    self.assertEqual(steps_of(board, ways, least), [board])

    def test_many_boards(self):
        for board in samples.sample_boards(3):
            for ways in samples.BOTH_WAYS:
                for least in (2, 3, 5, 12):
                    self.check(board, ways, least)

    def test_all_leasts(self):
        for board in samples.drawn_boards(2, [(3, 3), (2, 4), (4, 4)]):
            for ways in samples.BOTH_WAYS:
                for least in range(1, 65):
                    self.check(board, ways, least)

    def test_every_small_board(self):
        for rows, width, letters in [(1, 5, "abc"), (2, 3, "abc"), (3, 3, "ab")]:
            for board in samples.every_board(rows, width, letters):
                for ways in samples.BOTH_WAYS:
                    self.check(board, ways, 3)

    def test_kinds(self):
        told = steps_of(BENT, 4, 3)
        self.assertGreater(len(told), 1)
        for board in told + [melted(BENT, 4, 3), melted_once(BENT, 4, 3)]:
            self.assertIs(type(board), tuple)
            self.assertTrue(all(type(row) is str for row in board))


class TestRefusals(unittest.TestCase):
    def test_no_board(self):
        for thing in samples.no_boards():
            for function in ALL:
                with self.assertRaises(NoBoard, msg=repr(thing)):
                    function(thing, 4, 2)

    def test_no_ways(self):
        for thing in samples.no_ways():
            for function in ALL:
                for board in (BENT, ("a",)):
                    with self.assertRaises(NoWays, msg=repr(thing)):
                        function(board, thing, 2)

    def test_no_number(self):
        for thing in samples.no_numbers(1, 64) + [0, 65, -1, -64, True, False, None, "1", "", [1], [], (2,)]:
            for function in ALL:
                for board in (BENT, ("a",)):
                    for ways in samples.BOTH_WAYS:
                        with self.assertRaises(NoNumber, msg=repr(thing)):
                            function(board, ways, thing)


if __name__ == "__main__":
    unittest.main()
