"""[10.1] The fewest changes of letter from cell to cell, the fewest steps over some letters alone."""

import unittest
from itertools import combinations

import samples
from cellpatches.errors import NoBoard, NoCell, NoLetter, NoWays
from cellpatches.roads import fewest_changes, steps_over

LETTERS = list("abcdef")

BEND = (
    "aab",
    "bab",
    "aab",
)


def plain_changes(board, ways, one):
    return samples.plain_costs(board, ways, one, lambda sign, other: int(sign != other))


def plain_steps(board, ways, letters, one):
    """How many steps it takes to each cell that can be reached over these letters."""
    if board[one[0]][one[1]] not in letters:
        return {}
    return samples.plain_costs(board, ways, one, lambda sign, other: 1 if other in letters else None)


class TestFewestChanges(unittest.TestCase):
    def test_within_a_patch(self):
        for ways in samples.BOTH_WAYS:
            for cell in samples.plain_cells(BEND):
                self.assertEqual(fewest_changes(BEND, ways, cell, cell), 0)
            self.assertEqual(fewest_changes(BEND, ways, (0, 0), (2, 0)), 0)
            self.assertEqual(fewest_changes(samples.SNAKE, ways, (0, 0), (7, 0)), 0)
            self.assertEqual(fewest_changes(("a",), ways, (0, 0), (0, 0)), 0)

    def test_to_the_next_one(self):
        for ways in samples.BOTH_WAYS:
            self.assertEqual(fewest_changes(BEND, ways, (0, 0), (0, 2)), 1)
            self.assertEqual(fewest_changes(BEND, ways, (0, 2), (0, 0)), 1)
            self.assertEqual(fewest_changes(("ab",), ways, (0, 0), (0, 1)), 1)
            self.assertEqual(fewest_changes(samples.SNAKE, ways, (0, 0), (1, 0)), 1)

    def test_over_several(self):
        for ways in samples.BOTH_WAYS:
            # To another patch of its own letter, too.
            self.assertEqual(fewest_changes(BEND, ways, (1, 0), (1, 2)), 2)
            self.assertEqual(fewest_changes(("aba",), ways, (0, 0), (0, 2)), 2)
            self.assertEqual(fewest_changes(("abcdefab",), ways, (0, 0), (0, 7)), 7)
            self.assertEqual(fewest_changes(("a", "b", "c"), ways, (2, 0), (0, 0)), 2)
            # Round by the d's there are fewer changes, and more steps.
            self.assertEqual(fewest_changes(("abcab", "ddddd"), ways, (0, 0), (0, 4)), 2)

    def test_over_corners_fewer(self):
        for board, over_sides, over_corners in [
            (("ab", "ba"), 2, 0), (("ac", "cb"), 2, 1), (("abc", "bcd", "cde"), 4, 2), (("ab", "cd"), 2, 1),
            (("abb", "cab", "cca"), 2, 0), (samples.CHECKERED, 14, 0),
        ]:
            last = (len(board) - 1, len(board[0]) - 1)
            self.assertEqual(fewest_changes(board, 4, (0, 0), last), over_sides)
            self.assertEqual(fewest_changes(board, 8, (0, 0), last), over_corners)

    def test_many_boards(self):
        for board in samples.sample_boards(2):
            for ways in samples.BOTH_WAYS:
                for one in samples.plain_cells(board)[::9]:
                    costs = plain_changes(board, ways, one)
                    for other in samples.plain_cells(board)[::2]:
                        told = fewest_changes(board, ways, one, other)
                        self.assertEqual(told, costs[other], (board, ways, one, other))
                        self.assertIs(type(told), int)

    def test_every_small_board(self):
        for board in samples.every_board(2, 3, "abc"):
            for ways in samples.BOTH_WAYS:
                costs = plain_changes(board, ways, (0, 0))
                for other in samples.plain_cells(board):
                    self.assertEqual(fewest_changes(board, ways, (0, 0), other), costs[other], (board, ways, other))


class TestStepsOver(unittest.TestCase):
    def test_of_one_itself(self):
        for ways in samples.BOTH_WAYS:
            for row, column in samples.plain_cells(BEND):
                for letters in (["a"], ["b"], ["c", "b"], ["a", "b"], LETTERS, []):
                    told = steps_over(BEND, ways, letters, (row, column), (row, column))
                    if BEND[row][column] in letters:
                        self.assertEqual(told, 0)
                        self.assertIs(type(told), int)
                    else:
                        self.assertIsNone(told)

    def test_known_ways(self):
        self.assertEqual(steps_over(BEND, 4, ["a"], (0, 0), (2, 0)), 4)
        self.assertEqual(steps_over(BEND, 8, ["a"], (0, 0), (2, 0)), 2)
        self.assertEqual(steps_over(BEND, 4, ["b", "a"], (0, 0), (2, 0)), 2)
        self.assertEqual(steps_over(BEND, 4, ["a", "b"], (0, 0), (2, 2)), 4)
        self.assertEqual(steps_over(BEND, 8, ["a", "b"], (0, 0), (2, 2)), 2)
        self.assertEqual(steps_over(samples.SNAKE, 4, ["a"], (0, 0), (7, 0)), 35)
        for ways in samples.BOTH_WAYS:
            self.assertEqual(steps_over(("ab",), ways, ["a", "b"], (0, 1), (0, 0)), 1)
            self.assertEqual(steps_over(("abcba",), ways, ["a", "b", "c"], (0, 0), (0, 4)), 4)

    def test_what_can_not_be_reached(self):
        for ways in samples.BOTH_WAYS:
            # The other one's letter, the first one's, one between them.
            self.assertIsNone(steps_over(BEND, ways, ["a"], (0, 0), (0, 2)))
            self.assertIsNone(steps_over(BEND, ways, ["b"], (0, 0), (0, 2)))
            self.assertIsNone(steps_over(("abc",), ways, ["a", "c"], (0, 0), (0, 2)))
            self.assertIsNone(steps_over(BEND, ways, ["b"], (1, 0), (0, 2)))
            self.assertIsNone(steps_over(("a",), ways, ["b", "c", "d", "e", "f"], (0, 0), (0, 0)))
        self.assertIsNone(steps_over(("ab", "ba"), 4, ["a"], (0, 0), (1, 1)))
        self.assertEqual(steps_over(("ab", "ba"), 8, ["a"], (0, 0), (1, 1)), 1)

    def test_the_empty_list(self):
        for board in (BEND, ("a",), samples.CHECKERED):
            for ways in samples.BOTH_WAYS:
                for other in samples.plain_cells(board):
                    self.assertIsNone(steps_over(board, ways, [], (0, 0), other))

    def test_a_letter_twice_and_letters_that_are_not_there(self):
        for ways in samples.BOTH_WAYS:
            for other in samples.plain_cells(BEND):
                wanted = steps_over(BEND, ways, ["a"], (0, 0), other)
                self.assertEqual(steps_over(BEND, ways, ["a", "a", "a"], (0, 0), other), wanted)
                self.assertEqual(steps_over(BEND, ways, ["f", "a", "c", "f"], (0, 0), other), wanted)

    def test_all_letters(self):
        for board in samples.sample_boards(1):
            for one in samples.plain_cells(board)[::7]:
                for other in samples.plain_cells(board)[::3]:
                    down, along = abs(one[0] - other[0]), abs(one[1] - other[1])
                    self.assertEqual(steps_over(board, 4, LETTERS, one, other), down + along)
                    self.assertEqual(steps_over(board, 8, LETTERS, one, other), max(down, along))

    def test_many_boards(self):
        lists = [["a"], ["b", "a"], ["c", "a", "e"], ["b", "c", "d"], ["a", "b", "c", "d", "f"]]
        none = some = 0
        for board in samples.sample_boards(2):
            for ways in samples.BOTH_WAYS:
                for letters, one in zip(lists * 13, samples.plain_cells(board)[::3]):
                    costs = plain_steps(board, ways, letters, one)
                    for other in samples.plain_cells(board)[::2]:
                        told = steps_over(board, ways, letters, one, other)
                        self.assertEqual(told, costs.get(other), (board, ways, letters, one, other))
                        none += told is None
                        some += told is not None
        self.assertGreater(min(none, some), 1000)

    def test_every_small_board(self):
        for board in samples.every_board(2, 3, "abc"):
            for ways in samples.BOTH_WAYS:
                for letters in combinations("abc", 2):
                    costs = plain_steps(board, ways, letters, (0, 0))
                    for other in samples.plain_cells(board):
                        told = steps_over(board, ways, list(letters), (0, 0), other)
                        self.assertEqual(told, costs.get(other), (board, ways, letters, other))

    def test_the_list_is_as_it_was(self):
        for letters in ([], ["a"], ["b", "a", "b"], LETTERS):
            kept = list(letters)
            for other in samples.plain_cells(BEND):
                steps_over(BEND, 4, letters, (0, 0), other)
            self.assertEqual(letters, kept)
        letters = ["a", ["b"], "g"]
        with self.assertRaises(NoLetter):
            steps_over(BEND, 4, letters, (0, 0), (0, 0))
        self.assertEqual(letters, ["a", ["b"], "g"])


class TestRefusals(samples.Refusing):
    def test_no_board(self):
        for thing in samples.no_boards():
            self.refused(NoBoard, fewest_changes, thing, 4, (0, 0), (0, 0))
            self.refused(NoBoard, steps_over, thing, 4, ["a"], (0, 0), (0, 0))

    def test_no_ways(self):
        for thing in samples.no_ways():
            self.refused(NoWays, fewest_changes, BEND, thing, (0, 0), (0, 0))
            self.refused(NoWays, steps_over, BEND, thing, ["a"], (0, 0), (0, 0))

    def test_no_cell(self):
        for board in (BEND, ("a",), ("abc",), ("a", "b")):
            for thing in samples.no_cells(board):
                for one, other in ((thing, (0, 0)), ((0, 0), thing), (thing, thing)):
                    self.refused(NoCell, fewest_changes, board, 4, one, other)
                    for letters in ([], ["a"], LETTERS):
                        self.refused(NoCell, steps_over, board, 8, letters, one, other)

    def test_no_list(self):
        for thing in (None, True, 0, 4, "", "a", "abc", (), ("a",), ("a", "b"), (("a",),)):
            for board in (BEND, ("a",)):
                self.refused(NoLetter, steps_over, board, 4, thing, (0, 0), (0, 0))

    def test_no_letter_anywhere_in_the_list(self):
        for thing in samples.no_letters():
            self.refused(NoLetter, steps_over, BEND, 4, [thing], (0, 0), (0, 0))
            for place in range(4):
                letters = ["a", "b", "c"]
                letters.insert(place, thing)
                self.refused(NoLetter, steps_over, BEND, 8, letters, (0, 0), (2, 2))

    def test_letters_ahead_of_cells(self):
        for letters in (None, "a", ("a",), ["g"], ["a", 1]):
            for cell in (None, (3, 0), [0, 0]):
                self.refused(NoLetter, steps_over, BEND, 4, letters, cell, (0, 0))
                self.refused(NoLetter, steps_over, BEND, 4, letters, (0, 0), cell)
                self.refused(NoWays, steps_over, BEND, 5, letters, cell, cell)
                self.refused(NoBoard, steps_over, (), 5, letters, cell, cell)


if __name__ == "__main__":
    unittest.main()
