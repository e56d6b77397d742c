"""[11.1] What is cut out, where a part is found. [11.2] Boards with other letters, boards alike, letters exchanged."""

import unittest
from itertools import permutations, product

import samples
from cellpatches.boards import is_board
from cellpatches.errors import NoBoard, NoCell, NoLetter
from cellpatches.parts import are_like, cut_out, found_in, relettered, swapped

BOARD = (
    "abcd",
    "efab",
    "cdef",
)


def all_spans(board):
    """Each (top, left, low, right) of a part of the board."""
    rows, columns = range(len(board)), range(len(board[0]))
    return [
        (top, left, low, right)
        for top, low in product(rows, rows) for left, right in product(columns, columns)
        if top <= low and left <= right
    ]


def plain_found(board, part):
    told = []
    for row in range(len(board) - len(part) + 1):
        for column in range(len(board[0]) - len(part[0]) + 1):
            if all(board[row + down][column + along] == part[down][along] for down, along in samples.plain_cells(part)):
                told.append((row, column))
    return told


def plain_alike(one, other):
    """Whether some exchange of all six letters makes one board of the other."""
    return any(one == with_letters(other, letters) for letters in permutations("abcdef"))


def with_letters(board, letters):
    names = dict(zip("abcdef", letters))
    return tuple("".join(names[sign] for sign in row) for row in board)


class TestCutOut(samples.Refusing):
    def test_one_cell(self):
        for row, column in samples.plain_cells(BOARD):
            self.assertEqual(cut_out(BOARD, row, column, row, column), (BOARD[row][column],))
        self.assertEqual(cut_out(("f",), 0, 0, 0, 0), ("f",))

    def test_the_whole_board(self):
        for board in samples.sample_boards(1):
            self.assertEqual(cut_out(board, 0, 0, len(board) - 1, len(board[0]) - 1), board)

    def test_rows_and_columns(self):
        self.assertEqual(cut_out(BOARD, 0, 0, 0, 3), ("abcd",))
        self.assertEqual(cut_out(BOARD, 2, 0, 2, 3), ("cdef",))
        self.assertEqual(cut_out(BOARD, 1, 1, 1, 2), ("fa",))
        self.assertEqual(cut_out(BOARD, 0, 0, 2, 0), ("a", "e", "c"))
        self.assertEqual(cut_out(BOARD, 0, 3, 2, 3), ("d", "b", "f"))
        self.assertEqual(cut_out(BOARD, 1, 2, 2, 2), ("a", "e"))

    def test_inside(self):
        self.assertEqual(cut_out(BOARD, 0, 1, 1, 2), ("bc", "fa"))
        self.assertEqual(cut_out(BOARD, 1, 1, 2, 3), ("fab", "def"))
        self.assertEqual(cut_out(samples.SPIRAL, 3, 2, 5, 6), ("bbbab", "abbab", "aaaab"))

    def test_every_part(self):
        for board in [BOARD, ("abcdef",), ("a", "b", "c"), *samples.drawn_boards(1, [(3, 5), (4, 4)])]:
            for top, left, low, right in all_spans(board):
                told = cut_out(board, top, left, low, right)
                self.assertIs(is_board(told), True)
                self.assertEqual((len(told), len(told[0])), (low - top + 1, right - left + 1))
                for row, column in samples.plain_cells(told):
                    self.assertEqual(told[row][column], board[top + row][left + column])

    def test_no_board(self):
        for thing in samples.no_boards():
            self.refused(NoBoard, cut_out, thing, 0, 0, 0, 0)
            self.refused(NoBoard, cut_out, thing, None, -1, "a", 9)

    def test_no_cells(self):
        for spot in (-1, 3, 4, 8, -3, 10 ** 20):
            self.refused(NoCell, cut_out, BOARD, spot, 0, 2, 3)
            self.refused(NoCell, cut_out, BOARD, 0, 0, spot, 3)
        for spot in (-1, 4, 5, 8, -4, 10 ** 20):
            self.refused(NoCell, cut_out, BOARD, 0, spot, 2, 3)
            self.refused(NoCell, cut_out, BOARD, 0, 0, 2, spot)

    def test_no_whole_numbers(self):
        for thing in samples.no_numbers(0, 2):
            if not samples.is_plain_whole(thing):
                for place in range(4):
                    for others in ([0, 0, 0, 0], [0, 0, 2, 3], [1, 1, 1, 1]):
                        handed = others[:place] + [thing] + others[place + 1:]
                        self.refused(NoCell, cut_out, BOARD, *handed)
                self.refused(NoCell, cut_out, BOARD, thing, thing, thing, thing)

    def test_truths(self):
        for handed in product((0, False, 1, True), repeat=4):
            if any(type(spot) is bool for spot in handed):
                self.refused(NoCell, cut_out, BOARD, *handed)

    def test_ends_ahead_of_beginnings(self):
        for top, left, low, right in product(range(3), range(4), range(3), range(4)):
            if low < top or right < left:
                self.refused(NoCell, cut_out, BOARD, top, left, low, right)


class TestFoundIn(samples.Refusing):
    def test_the_board_itself(self):
        for board in samples.sample_boards(1):
            self.assertEqual(found_in(board, board), [(0, 0)])

    def test_one_cell(self):
        self.assertEqual(found_in(BOARD, ("a",)), [(0, 0), (1, 2)])
        self.assertEqual(found_in(BOARD, ("f",)), [(1, 1), (2, 3)])
        self.assertEqual(found_in(("a",), ("a",)), [(0, 0)])
        self.assertEqual(found_in(("aa", "aa"), ("a",)), [(0, 0), (0, 1), (1, 0), (1, 1)])

    def test_several_times(self):
        self.assertEqual(found_in(BOARD, ("ab",)), [(0, 0), (1, 2)])
        self.assertEqual(found_in(BOARD, ("ef",)), [(1, 0), (2, 2)])
        self.assertEqual(found_in(BOARD, ("cd",)), [(0, 2), (2, 0)])
        self.assertEqual(found_in(("abab", "baba"), ("ab",)), [(0, 0), (0, 2), (1, 1)])
        self.assertEqual(found_in(samples.CHECKERED, ("ab", "ba"))[:5], [(0, 0), (0, 2), (0, 4), (0, 6), (1, 1)])

    def test_where_it_overlaps_itself(self):
        self.assertEqual(found_in(("aaaa",), ("aa",)), [(0, 0), (0, 1), (0, 2)])
        self.assertEqual(found_in(("a", "b", "a", "b", "a"), ("a", "b", "a")), [(0, 0), (2, 0)])
        self.assertEqual(found_in(("aaa", "aaa", "aaa"), ("aa", "aa")), [(0, 0), (0, 1), (1, 0), (1, 1)])

    def test_wider_or_higher(self):
        self.assertEqual(found_in(("ab",), ("abc",)), [])
        self.assertEqual(found_in(("ab",), ("ab", "ab")), [])
        self.assertEqual(found_in(("a",), ("a" * 8,) * 8), [])
        self.assertEqual(found_in(("aaaa",), ("a", "a")), [])
        self.assertEqual(found_in(("a", "a", "a"), ("aa",)), [])

    def test_nowhere(self):
        self.assertEqual(found_in(BOARD, ("ba",)), [])
        self.assertEqual(found_in(BOARD, ("ab", "cd")), [])
        self.assertEqual(found_in(("aaa",), ("b",)), [])
        # Not past the edge, where the row goes on in the next one.
        self.assertEqual(found_in(("aab", "baa"), ("bb",)), [])
        self.assertEqual(found_in(("aab", "caa"), ("bc",)), [])

    def test_many_boards(self):
        several = 0
        for board in samples.drawn_boards(3, [(1, 6), (3, 3), (4, 4), (3, 6)]):
            parts = samples.every_board(1, 2) + samples.every_board(2, 1) + samples.every_board(2, 2)
            for part in parts + samples.every_board(1, 3):
                told = found_in(board, part)
                self.assertEqual(told, plain_found(board, part), (board, part))
                self.assertIs(type(told), list)
                several += len(told) > 1
        self.assertGreater(several, 20)

    def test_no_board(self):
        for thing in samples.no_boards():
            self.refused(NoBoard, found_in, thing, ("a",))
            self.refused(NoBoard, found_in, ("a",), thing)
            self.refused(NoBoard, found_in, thing, thing)


class TestRelettered(samples.Refusing):
    def test_known_boards(self):
        for board, wanted in [
            (("a",), ("a",)), (("f",), ("a",)), (("abc", "def"), ("abc", "def")), (("fedcba",), ("abcdef",)),
            (("aab", "bab"), ("aab", "bab")), (("bba", "aba"), ("aab", "bab")), (("ca", "fc"), ("ab", "ca")),
            (("bbb", "bcb", "dbb"), ("aaa", "aba", "caa")), (("a", "c", "b", "c"), ("a", "b", "c", "b")),
            (("acfbed", "defbca"), ("abcdef", "fecdba")), (("aacc",), ("aabb",)),
        ]:
            self.assertEqual(relettered(board), wanted, board)

    def test_row_by_row(self):
        # Column by column the c would be met second.
        self.assertEqual(relettered(("ab", "cd")), ("ab", "cd"))
        self.assertEqual(relettered(("ac", "bd")), ("ab", "cd"))
        self.assertEqual(relettered(("dba", "dac")), ("abc", "acd"))

    def test_many_boards(self):
        for board in samples.sample_boards(3):
            told = relettered(board)
            self.assertIs(is_board(told), True)
            self.assertEqual([len(row) for row in told], [len(row) for row in board])
            pairs = set(zip("".join(board), "".join(told)))
            self.assertEqual(len(pairs), len(set("".join(board))))
            met = list(dict.fromkeys("".join(told)))
            self.assertEqual(met, list("abcdef")[:len(pairs)])

    def test_no_board(self):
        for thing in samples.no_boards():
            self.refused(NoBoard, relettered, thing)


class TestAreLike(samples.Refusing):
    def test_boards_alike(self):
        for one, other in [
            (("a",), ("f",)), (("ab",), ("ba",)), (("ab", "cd"), ("fe", "dc")), (("aab", "bab"), ("ddc", "cdc")),
            (("abcdef",), ("fedcba",)), (samples.CHECKERED, samples.CHECKERED[::-1]),
        ]:
            self.assertIs(are_like(one, other), True)
            self.assertIs(are_like(other, one), True)
            self.assertIs(are_like(one, one), True)

    def test_unlike_sizes(self):
        for one, other in [
            (("a",), ("aa",)), (("a",), ("a", "a")), (("ab",), ("a", "b")), (("ab", "ab"), ("abab",)),
            (("abcd",), ("ab", "cd")), (("aaa", "aaa"), ("aa", "aa", "aa")), (("a" * 8,) * 8, ("a" * 8,) * 7),
        ]:
            self.assertIs(are_like(one, other), False)
            self.assertIs(are_like(other, one), False)

    def test_as_many_letters_and_not_alike(self):
        for one, other in [
            (("aab",), ("abb",)), (("ab", "ab"), ("ab", "ba")), (("aba",), ("aab",)), (("abca",), ("abcb",)),
            (("aab", "bab"), ("aab", "baa")), (("abcdefa",), ("abcdefb",)),
        ]:
            self.assertIs(are_like(one, other), False)
            self.assertIs(are_like(other, one), False)

    def test_not_as_many_letters(self):
        for one, other in [(("ab",), ("aa",)), (("abc",), ("aba",)), (("ab", "cd"), ("ab", "cc"))]:
            self.assertIs(are_like(one, other), False)
            self.assertIs(are_like(other, one), False)

    def test_every_small_board(self):
        some = samples.every_board(2, 2, "acf")
        for one in some[::5]:
            for other in some[::2]:
                self.assertIs(are_like(one, other), plain_alike(one, other), (one, other))

    def test_many_boards(self):
        for board in samples.sample_boards(3):
            for letters in ("fedcba", "bcdefa", "badcfe", "cabfde"):
                self.assertIs(are_like(board, with_letters(board, letters)), True)

    def test_no_board(self):
        for thing in samples.no_boards():
            self.refused(NoBoard, are_like, thing, ("a",))
            self.refused(NoBoard, are_like, ("a",), thing)
            self.refused(NoBoard, are_like, thing, thing)


class TestSwapped(samples.Refusing):
    def test_two_that_are_there(self):
        self.assertEqual(swapped(("aab", "cab"), "a", "b"), ("bba", "cba"))
        self.assertEqual(swapped(("aab", "cab"), "b", "a"), ("bba", "cba"))
        self.assertEqual(swapped(("aab", "cab"), "c", "a"), ("ccb", "acb"))
        self.assertEqual(swapped(("abcdef",), "a", "f"), ("fbcdea",))

    def test_one_that_is_not_there(self):
        self.assertEqual(swapped(("aab", "cab"), "a", "f"), ("ffb", "cfb"))
        self.assertEqual(swapped(("aab", "cab"), "f", "a"), ("ffb", "cfb"))
        self.assertEqual(swapped(("aab", "cab"), "e", "f"), ("aab", "cab"))

    def test_one_with_itself(self):
        for letter in "abcdef":
            for board in (BOARD, ("aab", "cab"), ("a",)):
                self.assertEqual(swapped(board, letter, letter), board)

    def test_many_boards(self):
        for board in samples.sample_boards(1):
            for one, other in product("abcdef", repeat=2):
                told = swapped(board, one, other)
                self.assertEqual(told, with_letters(board, [
                    other if sign == one else one if sign == other else sign for sign in "abcdef"
                ]))
                self.assertEqual(swapped(told, one, other), board)
                self.assertIs(is_board(told), True)

    def test_no_board(self):
        for thing in samples.no_boards():
            self.refused(NoBoard, swapped, thing, "a", "b")
            self.refused(NoBoard, swapped, thing, "g", None)

    def test_no_letter(self):
        for thing in samples.no_letters():
            for board in (BOARD, ("a",)):
                self.refused(NoLetter, swapped, board, thing, "a")
                self.refused(NoLetter, swapped, board, "a", thing)
                self.refused(NoLetter, swapped, board, thing, thing)


if __name__ == "__main__":
    unittest.main()
