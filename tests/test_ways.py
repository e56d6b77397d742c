"""[2.2] Whether two cells are of one patch, ways between them, what is a way and what is a fence."""

import unittest
from itertools import combinations, product

import samples
from cellpatches.errors import NoBoard, NoCell, NoWays
from cellpatches.patches import are_one, is_fence, is_way, patch_of, way

BEND = (
    "aab",
    "bab",
    "aab",
)

NO_LISTS = [thing for thing in samples.ODD_THINGS if thing != [(0, 0)]]


def shortest_is_told(case, board, ways, one, told, lengths, other):
    if other not in lengths:
        case.assertIsNone(told, (board, ways, one, other))
        return
    case.assertIs(type(told), list, (board, ways, one, other))
    case.assertEqual(len(told), lengths[other], (board, ways, one, other, told))
    case.assertTrue(samples.plain_is_way(board, ways, one, other, told), (board, ways, one, other, told))


class TestWay(unittest.TestCase):
    def test_to_itself(self):
        for ways in samples.BOTH_WAYS:
            self.assertEqual(way(("a",), ways, (0, 0), (0, 0)), [(0, 0)])
            for cell in samples.plain_cells(BEND):
                self.assertEqual(way(BEND, ways, cell, cell), [cell])
                self.assertIs(are_one(BEND, ways, cell, cell), True)

    def test_to_one_beside_it(self):
        self.assertEqual(way(BEND, 4, (0, 0), (0, 1)), [(0, 0), (0, 1)])
        self.assertEqual(way(BEND, 4, (0, 1), (0, 0)), [(0, 1), (0, 0)])
        self.assertEqual(way(BEND, 8, (0, 0), (1, 1)), [(0, 0), (1, 1)])
        self.assertIsNone(way(BEND, 4, (1, 0), (1, 1)))
        self.assertIsNone(way(BEND, 8, (1, 0), (1, 1)))

    def test_round_a_bend(self):
        self.assertEqual(way(BEND, 4, (0, 0), (2, 0)), [(0, 0), (0, 1), (1, 1), (2, 1), (2, 0)])
        self.assertEqual(way(BEND, 4, (2, 0), (0, 0)), [(2, 0), (2, 1), (1, 1), (0, 1), (0, 0)])
        self.assertEqual(way(BEND, 8, (0, 0), (2, 0)), [(0, 0), (1, 1), (2, 0)])
        self.assertEqual(len(way(samples.SNAKE, 4, (0, 0), (7, 0))), 36)
        self.assertEqual(way(samples.SNAKE, 4, (0, 0), (7, 0)), way(samples.SNAKE, 4, (7, 0), (0, 0))[::-1])

    def test_without_any(self):
        # Of the same letter and apart, and of another letter.
        self.assertIsNone(way(BEND, 4, (1, 0), (0, 2)))
        self.assertIsNone(way(BEND, 8, (1, 0), (0, 2)))
        self.assertIsNone(way(BEND, 4, (0, 0), (0, 2)))
        self.assertIsNone(way(("ab", "ba"), 4, (0, 0), (1, 1)))
        self.assertEqual(way(("ab", "ba"), 8, (0, 0), (1, 1)), [(0, 0), (1, 1)])

    def test_many_boards(self):
        for board in samples.sample_boards(2):
            all_cells = samples.plain_cells(board)
            for ways in samples.BOTH_WAYS:
                for one in all_cells[::5]:
                    lengths = samples.plain_lengths(board, ways, one)
                    for other in all_cells[::3]:
                        told = way(board, ways, one, other)
                        shortest_is_told(self, board, ways, one, told, lengths, other)
                        self.assertIs(are_one(board, ways, one, other), other in lengths)

    def test_every_small_board(self):
        for rows, width in [(1, 4), (4, 1), (2, 3), (3, 2)]:
            for board in samples.every_board(rows, width):
                for ways in samples.BOTH_WAYS:
                    for one in samples.plain_cells(board):
                        lengths = samples.plain_lengths(board, ways, one)
                        for other in samples.plain_cells(board):
                            told = way(board, ways, one, other)
                            shortest_is_told(self, board, ways, one, told, lengths, other)
                            self.assertIs(are_one(board, ways, one, other), other in lengths)

    def test_many_shortest_ways(self):
        board = ("a" * 8,) * 8
        for one, other in [((0, 0), (7, 7)), ((7, 0), (0, 7)), ((3, 2), (5, 7)), ((6, 6), (1, 5))]:
            for ways in samples.BOTH_WAYS:
                told = way(board, ways, one, other)
                shortest_is_told(self, board, ways, one, told, samples.plain_lengths(board, ways, one), other)


class TestIsWay(unittest.TestCase):
    def test_short_and_long_ones(self):
        one, other = (0, 0), (1, 1)
        board = ("aaa", "aaa")
        for thing in [
            [(0, 0), (0, 1), (1, 1)],
            [(0, 0), (1, 0), (1, 1)],
            [(0, 0), (0, 1), (0, 2), (1, 2), (1, 1)],
            [(0, 0), (0, 1), (0, 0), (0, 1), (1, 1)],
            [(0, 0), (0, 1), (1, 1), (0, 1), (1, 1)],
            [(0, 0), (1, 0)] * 50 + [(1, 1)],
        ]:
            self.assertIs(is_way(board, 4, one, other, thing), True, thing)
            self.assertIs(is_way(board, 8, one, other, thing), True, thing)
        self.assertIs(is_way(board, 8, one, other, [(0, 0), (1, 1)]), True)
        self.assertIs(is_way(board, 4, one, other, [(0, 0), (1, 1)]), False)

    def test_to_itself(self):
        for ways in samples.BOTH_WAYS:
            self.assertIs(is_way(("aa",), ways, (0, 0), (0, 0), [(0, 0)]), True)
            self.assertIs(is_way(("aa",), ways, (0, 0), (0, 0), [(0, 0), (0, 1), (0, 0)]), True)
            self.assertIs(is_way(("aa",), ways, (0, 0), (0, 0), []), False)
            # No cell is next to itself.
            self.assertIs(is_way(("aa",), ways, (0, 0), (0, 0), [(0, 0), (0, 0)]), False)
            self.assertIs(is_way(("aa",), ways, (0, 0), (0, 1), [(0, 0), (0, 0), (0, 1)]), False)

    def test_wrong_ends(self):
        board = ("aaaa",)
        thing = [(0, 1), (0, 2)]
        self.assertIs(is_way(board, 4, (0, 1), (0, 2), thing), True)
        self.assertIs(is_way(board, 4, (0, 2), (0, 1), thing), False)
        self.assertIs(is_way(board, 4, (0, 0), (0, 2), thing), False)
        self.assertIs(is_way(board, 4, (0, 1), (0, 3), thing), False)
        self.assertIs(is_way(board, 4, (0, 1), (0, 1), thing), False)

    def test_over_another_letter(self):
        self.assertIs(is_way(("aba",), 4, (0, 0), (0, 2), [(0, 0), (0, 1), (0, 2)]), False)
        self.assertIs(is_way(("ab",), 4, (0, 0), (0, 1), [(0, 0), (0, 1)]), False)
        self.assertIs(is_way(("ab",), 4, (0, 1), (0, 0), [(0, 1), (0, 0)]), False)
        self.assertIs(is_way(("ba", "ab"), 4, (0, 1), (1, 0), [(0, 1), (0, 0), (1, 0)]), False)

    def test_spoilt_at_one_place(self):
        one, other = (0, 0), (2, 0)
        good = way(BEND, 4, one, other)
        self.assertIs(is_way(BEND, 4, one, other, good), True)
        spoilers = samples.plain_cells(BEND) + samples.no_cells(BEND)
        for place in range(len(good)):
            for spoiler in spoilers:
                if repr(spoiler) != repr(good[place]):
                    thing = good[:place] + [spoiler] + good[place + 1:]
                    self.assertIs(is_way(BEND, 4, one, other, thing), False, repr(thing))
            self.assertIs(is_way(BEND, 4, one, other, good[:place] + good[place + 1:]), False, place)
            self.assertIs(is_way(BEND, 4, one, other, good[:place]), False, place)
            self.assertIs(is_way(BEND, 4, one, other, good[:place + 1] + good[place:]), False, place)

    def test_truths_are_no_places(self):
        board = ("aa", "aa")
        self.assertIs(is_way(board, 4, (0, 0), (1, 0), [(0, 0), (1, 0)]), True)
        for thing in [
            [(False, 0), (1, 0)], [(0, False), (1, 0)], [(0, 0), (True, 0)], [(0, 0), (1, False)],
            [(0, 0), (0, True), (1, 1), (1, 0)],
        ]:
            self.assertIs(is_way(board, 4, (0, 0), (1, 0), thing), False, thing)

    def test_any_other_thing(self):
        for thing in NO_LISTS + [((0, 0),), ((0, 0), (0, 1)), [[0, 0]], [[(0, 0)]], ([(0, 0)],), (0, 0)]:
            for ways in samples.BOTH_WAYS:
                self.assertIs(is_way(("aa", "aa"), ways, (0, 0), (0, 0), thing), False, repr(thing))
        self.assertIs(is_way(("aa",), 4, (0, 0), (0, 1), ((0, 0), (0, 1))), False)
        self.assertIs(is_way(("aa",), 4, (0, 0), (0, 1), [[0, 0], [0, 1]]), False)

    def test_every_short_list_on_small_boards(self):
        for board in [("aa", "aa"), ("ab", "ba"), ("aa", "ab"), ("ab", "aa"), ("ab", "cd"), ("aab",), ("a", "b", "b")]:
            all_cells = samples.plain_cells(board)
            for many in range(5):
                for listed in product(all_cells, repeat=many):
                    for ways in samples.BOTH_WAYS:
                        for one, other in product(all_cells[:2], all_cells):
                            wanted = samples.plain_is_way(board, ways, one, other, list(listed))
                            told = is_way(board, ways, one, other, list(listed))
                            self.assertIs(told, wanted, (board, ways, one, other, listed))


class TestIsFence(unittest.TestCase):
    def test_a_patch(self):
        fence = [(0, 0), (0, 1), (1, 1), (2, 0), (2, 1)]
        for ways in samples.BOTH_WAYS:
            for cell in fence:
                self.assertIs(is_fence(BEND, ways, cell, (1, 0), fence), True)
                self.assertIs(is_fence(BEND, ways, cell, (0, 2), fence), True)
                self.assertIs(is_fence(BEND, ways, (1, 0), cell, fence), False)
                self.assertIs(is_fence(BEND, ways, cell, (0, 1), fence), False)
                self.assertIs(is_fence(BEND, ways, cell, cell, fence), False)
            # The one is not in it.
            self.assertIs(is_fence(BEND, ways, (1, 0), (0, 2), fence), False)

    def test_more_than_a_patch(self):
        both = [(1, 0), (0, 0), (0, 1), (1, 1), (2, 0), (2, 1)]
        self.assertIs(is_fence(BEND, 4, (1, 0), (0, 2), both), True)
        self.assertIs(is_fence(BEND, 4, (1, 0), (0, 2), [(1, 0)]), True)
        # The second patch is not whole.
        for place in range(1, len(both)):
            self.assertIs(is_fence(BEND, 4, (1, 0), (0, 2), both[:place] + both[place + 1:]), False, place)

    def test_any_order_and_told_again(self):
        fence = [(0, 0), (0, 1), (1, 1), (2, 0), (2, 1)]
        for thing in [fence[::-1], fence + fence, fence + [(1, 1)], [(2, 1)] + fence, fence * 100]:
            self.assertIs(is_fence(BEND, 4, (0, 0), (1, 0), thing), True)
        self.assertIs(is_fence(BEND, 4, (0, 0), (1, 0), [(0, 0), (0, 0)]), False)

    def test_over_corners_too(self):
        board = ("ab", "ba")
        self.assertIs(is_fence(board, 4, (0, 0), (1, 1), [(0, 0)]), True)
        self.assertIs(is_fence(board, 8, (0, 0), (0, 1), [(0, 0)]), False)
        self.assertIs(is_fence(board, 8, (0, 0), (0, 1), [(0, 0), (1, 1)]), True)

    def test_spoilt_at_one_place(self):
        one, other = (0, 0), (1, 0)
        good = patch_of(BEND, one, 4)
        self.assertIs(is_fence(BEND, 4, one, other, good), True)
        for place in range(len(good)):
            self.assertIs(is_fence(BEND, 4, one, other, good[:place] + good[place + 1:]), False, place)
            self.assertIs(is_fence(BEND, 4, one, other, good[:place] + [other] + good[place:]), False, place)
            for spoiler in samples.no_cells(BEND):
                thing = good[:place] + [spoiler] + good[place + 1:]
                self.assertIs(is_fence(BEND, 4, one, other, thing), False, repr(thing))
                thing = good[:place] + [spoiler] + good[place:]
                self.assertIs(is_fence(BEND, 4, one, other, thing), False, repr(thing))

    def test_any_other_thing(self):
        board = ("ab", "ba")
        self.assertIs(is_fence(board, 4, (0, 0), (0, 1), [(0, 0)]), True)
        for thing in NO_LISTS + [((0, 0),), ((0, 0), (1, 1)), [[0, 0]], [[(0, 0)]], ([(0, 0)],), (0, 0), [(0, False)]]:
            self.assertIs(is_fence(board, 4, (0, 0), (0, 1), thing), False, repr(thing))

    def test_every_choice_of_cells_on_small_boards(self):
        for board in [("aab", "bab"), ("aba", "bab"), ("aaa", "aaa"), ("ab", "ba", "aa"), ("abcd",), ("a", "a", "b")]:
            all_cells = samples.plain_cells(board)
            for many in range(len(all_cells) + 1):
                for chosen in combinations(all_cells, many):
                    for ways in samples.BOTH_WAYS:
                        for one, other in product(all_cells[:3], all_cells[1:4]):
                            wanted = samples.plain_is_fence(board, ways, one, other, list(chosen))
                            told = is_fence(board, ways, one, other, list(chosen))
                            self.assertIs(told, wanted, (board, ways, one, other, chosen))


class TestRefusals(unittest.TestCase):
    def each_with(self, board, ways, one, other, refusal):
        for function in (are_one, way):
            with self.assertRaises(refusal, msg=repr((board, ways, one, other))):
                function(board, ways, one, other)
        for function in (is_way, is_fence):
            for thing in ([(0, 0)], None):
                with self.assertRaises(refusal, msg=repr((board, ways, one, other))):
                    function(board, ways, one, other, thing)

    def test_no_board(self):
        for thing in samples.no_boards():
            self.each_with(thing, 4, (0, 0), (0, 0), NoBoard)

    def test_no_ways(self):
        for thing in samples.no_ways():
            self.each_with(BEND, thing, (0, 0), (0, 0), NoWays)

    def test_no_cell(self):
        for board in (BEND, ("a",), ("ab", "cd")):
            for thing in samples.no_cells(board):
                self.each_with(board, 4, thing, (0, 0), NoCell)
                self.each_with(board, 8, (0, 0), thing, NoCell)
                self.each_with(board, 8, thing, thing, NoCell)


if __name__ == "__main__":
    unittest.main()
