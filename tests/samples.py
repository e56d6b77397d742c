"""Boards and odd things for the tests, and slow, plain tellings to compare the program with."""

import unittest
from collections import Counter
from functools import lru_cache
from itertools import product

from cellpatches.errors import PatchError

BOTH_WAYS = (4, 8)

ODD_THINGS = [
    None, True, False, 0, 1, -1, 2, 3, 4, 5, 7, 8, 9, 12, -4, 10 ** 30,
    "", " ", "4", "8", "a", "ab", "None", "a\n", "A", "g",
    [], [[]], [None], [4], [8], ["a"], ["ab", "cd"], [0, 0], [(0, 0)], [[0, 0]], ["a", ["b", ("c",)]],
    (), ((),), (None,), (4,), (8,), (0,), (1, 2, 3), (True, False), ("0", "0"), (None, None), ([0], [0]),
    ((0, 0), (0, 0)), ((0, 0),), ("a", 0), (0, "a"), ("a", None), ("a", ["a"]), (("a",), ("a",)),
    [[[[[[[[[["a"]]]]]]]]]], (((((((((("a",),),),),),),),),),), [([(None, True)], 1)],
]

NO_BOARDS = [
    (), ("",), ("", ""), ("a",) * 9, ("ab",) * 20, ("a" * 9,), ("a" * 40,), ("a" * 9,) * 9,
    ("ab", "a"), ("a", "ab"), ("ab", "ab", "abc"), ("ab", ""), ("", "ab"), ("abc", "ab", "abc"),
    ("ag",), ("g",), ("A",), ("aB",), ("a b",), ("a.",), (".",), ("a\n",), ("\n",), ("a1",), ("`",),
    ("ab", "a-"), ("ab", "Fb"), ("\u00e4",), ("\u0430",), ("aa", "a\u0301"),
    ["ab", "cd"], ["a"], [("a",)], "a", "ab", "abcdef", ("ab", None), (None, "ab"), ("ab", 12), (1,), (True,),
    (["a", "b"],), (("a", "b"),), ("ab", ["a", "b"]), ("ab", ("a", "b")), (("ab",),), (("ab", "cd"), ("ab", "cd")),
    ([],), ((),), (("ab",), "ab"),
]


class Refusing(unittest.TestCase):
    def refused(self, refusal, function, *handed):
        """It is refused with this very class, and not with one above or beside it."""
        with self.assertRaises(PatchError, msg=repr(handed)) as caught:
            function(*handed)
        self.assertIs(type(caught.exception), refusal, repr(handed))


def no_boards():
    return NO_BOARDS + [thing for thing in ODD_THINGS if thing != ("a",)]


def no_letters():
    return [thing for thing in ODD_THINGS if thing != "a"] + ["B", "F", "aa", "fa", "abcdef", "\u00e4", "`", ("f",)]


def no_ways():
    good = [thing for thing in ODD_THINGS if not (isinstance(thing, int) and thing in (4, 8))]
    return good + [6, 16, 48, -8, (4, 8), [4, 8], "48"]


def no_cells(board):
    """Things that are no cells of this board; none of the odd things is a tuple of two whole numbers."""
    rows = len(board)
    width = len(board[0])
    bad = [
        (rows, 0), (0, width), (rows, width), (-1, 0), (0, -1), (-1, -1), (rows + 5, 0), (0, width + 5),
        (-rows, 0), (0, -width), (8, 0), (0, 8), (9, 9), (10 ** 20, 0), (0, -10 ** 20),
        (True, 0), (0, True), (False, 0), (0, False), (False, False), (True, True),
        [0, 0], (0,), (), (0, 0, 0), ((0, 0), 0), ((0, 0),), (0, (0,)), ([0], 0), (0, [0]), (None, 0), (0, None),
        ("0", 0), (0, "0"), "00", 0, "a",
    ]
    return bad + [thing for thing in ODD_THINGS if not is_plain_cell(thing)]


def no_numbers(least, most):
    """Things that are no whole numbers from the least to the most."""
    bad = [
        least - 1, most + 1, most + 2, -least - 1, -most - 1, 1000, -1000, -10 ** 30, str(least), str(most),
        [least], [most], (least,), (most,), [], (), (least, most), "", "0", "1",
    ]
    things = bad + ODD_THINGS
    return [thing for thing in things if not is_plain_whole(thing) or not least <= thing <= most]


def is_plain_whole(thing):
    return isinstance(thing, int) and not isinstance(thing, bool)


def is_plain_cell(thing):
    return isinstance(thing, tuple) and len(thing) == 2 and is_plain_whole(thing[0]) and is_plain_whole(thing[1])


SIZES = [
    (1, 1), (1, 2), (2, 1), (1, 8), (8, 1), (2, 2), (2, 3), (3, 2), (3, 3), (2, 8), (8, 2),
    (3, 5), (5, 3), (4, 4), (5, 5), (4, 7), (7, 4), (6, 6), (8, 8),
]


def drawn_boards(each, sizes=SIZES):
    """So many boards of every size, of two to six letters; the same ones each time."""
    state = 12345
    told = []
    for rows, width in sizes:
        for turn in range(each):
            many = 2 + turn % 5
            board = []
            for _ in range(rows):
                row = ""
                for _ in range(width):
                    state = (state * 1103515245 + 12345) % 2 ** 31
                    row += "abcdef"[(state >> 16) % many]
                board.append(row)
            told.append(tuple(board))
    return told


def every_board(rows, width, letters="ab"):
    all_rows = ["".join(signs) for signs in product(letters, repeat=width)]
    return list(product(all_rows, repeat=rows))


SNAKE = (
    "aaaaaaaa",
    "bbbbbbba",
    "aaaaaaaa",
    "abbbbbbb",
    "aaaaaaaa",
    "bbbbbbba",
    "aaaaaaaa",
    "abbbbbbb",
)

SPIRAL = (
    "aaaaaaaa",
    "bbbbbbba",
    "aaaaaaba",
    "abbbbaba",
    "ababbaba",
    "abaaaaba",
    "abbbbbba",
    "aaaaaaaa",
)

NESTED = (
    "aaaaaaa",
    "abbbbba",
    "abcccba",
    "abcacba",
    "abcccba",
    "abbbbba",
    "aaaaaaa",
)

CHECKERED = tuple("abababab" if row % 2 == 0 else "babababa" for row in range(8))

SIX_LETTERS = ("abcdef", "bcdefa", "cdefab")

KNOWN_BOARDS = [SNAKE, SPIRAL, CHECKERED, SIX_LETTERS, ("a" * 8,) * 8, ("a",), ("f",), ("abba",), ("a", "b", "b", "a")]


def sample_boards(each=3):
    return KNOWN_BOARDS + drawn_boards(each)


def cut_boards(board):
    """The board cut in two, behind each of its rows but the last."""
    return [(board[:row], board[row:]) for row in range(1, len(board))]


def plain_cells(board):
    return [(row, column) for row in range(len(board)) for column in range(len(board[0]))]


def steps_from(cell, ways):
    steps = [(-1, 0), (0, -1), (0, 1), (1, 0)]
    if ways == 8:
        steps += [(-1, -1), (-1, 1), (1, -1), (1, 1)]
    return [(cell[0] + down, cell[1] + along) for down, along in steps]


@lru_cache(maxsize=None)
def steps_within(rows, width, cell, ways):
    return sorted(near for near in steps_from(cell, ways) if 0 <= near[0] < rows and 0 <= near[1] < width)


def plain_beside(board, cell, ways):
    return list(steps_within(len(board), len(board[0]), cell, ways))


def plain_likes(board, cell, ways):
    mine = board[cell[0]][cell[1]]
    return [(row, column) for row, column in plain_beside(board, cell, ways) if board[row][column] == mine]


def plain_patches(board, ways):
    """Each cell a patch of its own at first; patches that touch and are alike are joined."""
    owner = {cell: cell for cell in plain_cells(board)}
    for cell in plain_cells(board):
        for near in plain_likes(board, cell, ways):
            old, new = owner[near], owner[cell]
            if old != new:
                owner = {key: (new if kept == old else kept) for key, kept in owner.items()}
    groups = {}
    for cell in plain_cells(board):
        groups.setdefault(owner[cell], []).append(cell)
    return sorted(groups.values())


def plain_costs(board, ways, one, cost):
    """What it costs at least to come from the one to each cell, a step from cell to cell costing what is told of both.

    Where a step costs None it can't be done.
    """
    costs = {one: 0}
    changed = True
    while changed:
        changed = False
        for cell in list(costs):
            for near in plain_beside(board, cell, ways):
                step = cost(board[cell[0]][cell[1]], board[near[0]][near[1]])
                if step is not None and costs.get(near, 10 ** 6) > costs[cell] + step:
                    costs[near] = costs[cell] + step
                    changed = True
    return costs


def plain_lengths(board, ways, one):
    """How many cells the shortest way from the one to each cell of its patch has."""
    costs = plain_costs(board, ways, one, lambda sign, other: 1 if sign == other else None)
    return {cell: steps + 1 for cell, steps in costs.items()}


def plain_is_way(board, ways, one, other, thing):
    """Of a list of cells of the board."""
    if thing[:1] != [one] or thing[-1:] != [other]:
        return False
    for cell, follower in zip(thing, thing[1:]):
        if follower not in plain_likes(board, cell, ways):
            return False
    return True


def plain_is_fence(board, ways, one, other, thing):
    """Of a list of cells of the board: it is whole patches, that of the one, not that of the other."""
    if one not in thing or other in thing:
        return False
    return all(set(patch) <= set(thing) or not set(patch) & set(thing) for patch in plain_patches(board, ways))


def plain_number_at(board, ways):
    return {cell: number for number, patch in enumerate(plain_patches(board, ways)) for cell in patch}


def plain_rim(patch):
    return sum(side not in patch for cell in patch for side in steps_from(cell, 4))


def plain_groups(some, ways):
    """How many parts some cells have that hang together by the ways."""
    left = set(some)
    many = 0
    while left:
        many += 1
        grown = {left.pop()}
        while grown:
            grown = {near for cell in grown for near in steps_from(cell, ways)} & left
            left -= grown
    return many


def plain_shut_in(board, ways, patch):
    """The board lies in the midst of free cells, from which all that is not shut in is come to."""
    rows, width = len(board), len(board[0])
    field = {(row, column) for row in range(-1, rows + 1) for column in range(-1, width + 1)}
    free = field - set(patch)
    come_to = {(-1, -1)}
    grown = come_to
    while grown:
        grown = {near for cell in grown for near in steps_from(cell, 12 - ways)} & free - come_to
        come_to = come_to | grown
    return sorted(free - come_to)


def plain_touching(board, ways):
    number_at = plain_number_at(board, ways)
    shared = Counter()
    for row, column in number_at:
        for near in [(row, column + 1), (row + 1, column)]:
            if near in number_at and number_at[near] != number_at[row, column]:
                shared[tuple(sorted([number_at[near], number_at[row, column]]))] += 1
    return sorted(shared.items())


def plain_patch(board, cell, ways):
    patch = {cell}
    grown = patch
    while grown:
        grown = {near for member in grown for near in plain_likes(board, member, ways)} - patch
        patch = patch | grown
    return patch


def plain_marked(board, marked, letter):
    rows = []
    for row in range(len(board)):
        rows.append("".join(letter if (row, column) in marked else sign for column, sign in enumerate(board[row])))
    return tuple(rows)


def plain_painted(board, cell, ways, letter):
    return plain_marked(board, plain_patch(board, cell, ways), letter)


def is_one_letter(board):
    return len(set("".join(board))) == 1


def plain_fewest(board, ways):
    """How many paints it takes: all boards that one paint makes, two make, and so on, till one is of one letter."""
    many = 0
    now = {board}
    while not any(is_one_letter(each) for each in now):
        now = {plain_painted(each, (0, 0), ways, letter) for each in now for letter in "abcdef"}
        many += 1
    return many


def plain_melted_once(board, ways, least):
    found = plain_patches(board, ways)
    small = [patch for patch in found if len(patch) < least]
    if len(found) == 1 or not small:
        return None
    fewest = min(len(patch) for patch in small)
    melting = next(patch for patch in small if len(patch) == fewest)
    best = None
    for patch in found:
        sides = sum(side in patch for cell in melting for side in steps_from(cell, 4))
        if patch != melting and sides and (best is None or (sides, len(patch)) > best[:2]):
            best = (sides, len(patch), patch)
    row, column = best[2][0]
    return plain_marked(board, melting, board[row][column])


def plain_neighbours(board, ways):
    """The numbers that share a side with each number."""
    near = {number: set() for number in range(len(plain_patches(board, ways)))}
    for (one, other), _ in plain_touching(board, ways):
        near[one].add(other)
        near[other].add(one)
    return near


def plain_borders(board, ways):
    """How many borders are between each two numbers: all of them bettered over each third one."""
    near = plain_neighbours(board, ways)
    far = {(one, other): 0 if one == other else 1 if other in near[one] else 10 ** 6 for one in near for other in near}
    for third in near:
        for one, other in far:
            far[one, other] = min(far[one, other], far[one, third] + far[third, other])
    return far
