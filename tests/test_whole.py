"""[0.2] (a) to (k) What holds of all boards. [0.3] New lists, what is handed in, which refusal is raised."""

import copy
import unittest
from itertools import product

import samples
from cellpatches import (
    boards, games, keepers, maps, measures, melting, painting, parts, patches, roads, scanning, texts,
)
from cellpatches.errors import NoBoard, NoCell, NoFit, NoLetter, NoNumber, NoText, NoWays, PatchError


def sizes(board, ways):
    return sorted(len(patch) for patch in patches.patches(board, ways))


FEW_CELLS = [(1, 1), (1, 4), (4, 1), (2, 3), (3, 3), (4, 4), (3, 5), (5, 5)]


def joined_over_the_seam(one, other, ways):
    """The patches of two boards, each scanned apart, joined by what the seam tells of their numbers."""
    above = patches.patches(one, ways)
    below = [[(row + len(one), column) for row, column in patch] for patch in patches.patches(other, ways)]
    groups = [({("one", number)}, patch) for number, patch in enumerate(above)]
    groups += [({("other", number)}, patch) for number, patch in enumerate(below)]
    for high, low in scanning.seam(one, other, ways):
        met = [group for group in groups if group[0] & {("one", high), ("other", low)}]
        groups = [group for group in groups if group not in met]
        groups.append((set().union(*[names for names, _ in met]), sum([patch for _, patch in met], [])))
    return sorted(sorted(patch) for _, patch in groups)


class TestAllBoards(unittest.TestCase):
    def test_patches_part_the_board(self):
        for board in samples.sample_boards(5):
            for ways in samples.BOTH_WAYS:
                told = patches.patches(board, ways)
                self.assertEqual(sorted(sum(told, [])), boards.cells(board))
                for patch in told:
                    self.assertEqual(len({boards.letter_at(board, cell) for cell in patch}), 1)

    def test_a_way_or_a_fence_and_not_both(self):
        for board in samples.sample_boards(2):
            some = boards.cells(board)
            for ways, one, other in product(samples.BOTH_WAYS, some[::6], some[::4]):
                told = patches.way(board, ways, one, other)
                patch = patches.patch_of(board, one, ways)
                has_way = told is not None and patches.is_way(board, ways, one, other, told)
                has_fence = patches.is_fence(board, ways, one, other, patch)
                self.assertNotEqual(has_way, has_fence, (board, ways, one, other))
                self.assertIs(patches.are_one(board, ways, one, other), has_way)

    def test_no_more_over_corners(self):
        fewer = 0
        for board in samples.sample_boards(5):
            over_corners = patches.how_many(board, 8)
            over_sides = patches.how_many(board, 4)
            self.assertLessEqual(over_corners, over_sides)
            fewer += over_corners < over_sides
        self.assertGreater(fewer, 10)

    def test_turned_and_mirrored(self):
        for board in samples.sample_boards(5):
            for ways in samples.BOTH_WAYS:
                for other in (boards.turned(board), boards.mirrored(board)):
                    self.assertEqual(patches.how_many(other, ways), patches.how_many(board, ways))
                    self.assertEqual(sizes(other, ways), sizes(board, ways))

    def test_sizes_and_rims(self):
        for board in samples.sample_boards(5):
            rows, width = len(board), len(board[0])
            for ways in samples.BOTH_WAYS:
                numbers = range(patches.how_many(board, ways))
                all_sizes = [measures.size(board, ways, number) for number in numbers]
                all_rims = [measures.rim(board, ways, number) for number in numbers]
                between = sum(sides for pair, sides in measures.touching(board, ways))
                self.assertEqual(sum(all_sizes), rows * width, (board, ways))
                self.assertEqual(sum(all_rims), 2 * between + 2 * (rows + width), (board, ways))

    def test_a_painted_patch_hangs_together_with_all_that_touch_it(self):
        grown = 0
        for board in samples.sample_boards(3):
            for ways in samples.BOTH_WAYS:
                for cell, letter in zip(boards.cells(board)[::3], "abcdef" * 11):
                    patch = patches.patch_of(board, cell, ways)
                    wanted = set(patch)
                    near = {other for member in patch for other in boards.beside(board, member, ways)}
                    for other in near:
                        if boards.letter_at(board, other) == letter:
                            wanted |= set(patches.patch_of(board, other, ways))
                    then = painting.painted(board, cell, ways, letter)
                    self.assertEqual(patches.patch_of(then, cell, ways), sorted(wanted), (board, cell, ways, letter))
                    grown += len(wanted) > len(patch)
        self.assertGreater(grown, 100)

    def test_the_fewest_paints(self):
        for board in samples.drawn_boards(5, [(1, 6), (2, 3), (2, 4), (3, 3), (3, 4), (4, 3), (6, 2)]):
            for ways in samples.BOTH_WAYS:
                told = painting.fewest_paints(board, ways)
                self.assertEqual(len(boards.letters(painting.paints_over(board, ways, told))), 1)
                now = {board}
                for _ in told:
                    self.assertFalse(any(len(boards.letters(each)) == 1 for each in now), (board, ways, told))
                    now = {painting.paints_over(each, ways, [letter]) for each in now for letter in "abcdef"}

    def test_melted_boards(self):
        for board in samples.sample_boards(3):
            for ways in samples.BOTH_WAYS:
                for least in (1, 2, 3, 4, 7, 20, 64):
                    then = melting.melted(board, ways, least)
                    self.assertTrue(patches.how_many(then, ways) == 1 or min(sizes(then, ways)) >= least)
                    self.assertEqual(melting.melted(then, ways, least), then)
                    self.assertIsNone(melting.melted_once(then, ways, least))
                    way_there = melting.steps_of(board, ways, least)
                    self.assertEqual((way_there[0], way_there[-1]), (board, then))

    def test_two_boards_put_together(self):
        for board in samples.sample_boards(5):
            for one, other in samples.cut_boards(board):
                whole = boards.stacked(one, other)
                self.assertEqual(whole, board)
                for ways in samples.BOTH_WAYS:
                    self.assertEqual(joined_over_the_seam(one, other, ways), patches.patches(whole, ways))
                    self.assertEqual(scanning.how_many_together(one, other, ways), patches.how_many(whole, ways))
                    self.assertEqual(scanning.sizes_together(one, other, ways), sizes(whole, ways))

    def test_texts_read_back(self):
        for board in samples.sample_boards(5):
            text = texts.board_text(board)
            self.assertEqual(texts.read_board(text), board)
            for other in (text[:-1], text + "\n", "\n" + text, text[1:-1], text.upper(), text + " ", " " + text):
                with self.assertRaises(NoText):
                    texts.read_board(other)

    def test_no_two_boards_have_one_text(self):
        some = set(samples.sample_boards(5))
        for rows, width in [(1, 1), (1, 2), (2, 1), (1, 3), (3, 1), (2, 2), (2, 3), (3, 2), (1, 6), (6, 1)]:
            some |= set(samples.every_board(rows, width, "abc"))
        self.assertGreater(len(some), 2000)
        told = {board: texts.board_text(board) for board in some}
        self.assertEqual(len(set(told.values())), len(some))
        for board, text in told.items():
            self.assertEqual(texts.read_board(text), board)
            self.assertEqual(texts.board_text(texts.read_board(text)), text)

    def test_borders(self):
        for board in samples.drawn_boards(3, FEW_CELLS) + samples.KNOWN_BOARDS[3:]:
            for ways in samples.BOTH_WAYS:
                numbers = range(patches.how_many(board, ways))
                far = {pair: maps.borders(board, ways, *pair) for pair in product(numbers, numbers)}
                for one, other in far:
                    self.assertEqual(far[one, other], far[other, one], (board, ways))
                    self.assertEqual(far[one, other] == 0, one == other, (board, ways))
                    self.assertEqual(far[one, other] == 1, other in maps.neighbours(board, ways, one), (board, ways))
                    for third in numbers:
                        self.assertLessEqual(far[one, other], far[one, third] + far[third, other], (board, ways))

    def test_letters_change_no_more_often_than_borders_are_crossed(self):
        fewer = 0
        for board in samples.sample_boards(3):
            some = boards.cells(board)
            for ways in samples.BOTH_WAYS:
                numbers = patches.numbered(board, ways)
                for one, other in product(some[::7], some[::5]):
                    crossed = maps.borders(board, ways, numbers[one[0]][one[1]], numbers[other[0]][other[1]])
                    changes = roads.fewest_changes(board, ways, one, other)
                    self.assertLessEqual(changes, crossed, (board, ways, one, other))
                    self.assertEqual(changes == 0, patches.are_one(board, ways, one, other))
                    if ways == 4:
                        self.assertEqual(changes, crossed, (board, one, other))
                    fewer += changes < crossed
        self.assertGreater(fewer, 50)

    def test_a_part_is_found_where_it_was_cut_out(self):
        for board in samples.sample_boards(3):
            some = boards.cells(board)
            for (top, left), (low, right) in product(some[::3], some[::2] + some[-1:]):
                if top <= low and left <= right:
                    part = parts.cut_out(board, top, left, low, right)
                    found = parts.found_in(board, part)
                    self.assertIn((top, left), found, (board, part))
                    for row, column in found:
                        height, width = len(part) - 1, len(part[0]) - 1
                        self.assertEqual(parts.cut_out(board, row, column, row + height, column + width), part)

    def test_boards_with_other_letters(self):
        for board in samples.sample_boards(4):
            others = [parts.relettered(board)]
            for one, other in product("abcdef", repeat=2):
                others.append(parts.swapped(others[-1], one, other))
            for other in others[::4]:
                self.assertIs(parts.are_like(board, other), True)
                self.assertEqual(parts.relettered(other), others[0])
                for ways in samples.BOTH_WAYS:
                    self.assertEqual(patches.patches(other, ways), patches.patches(board, ways))

    def test_what_is_taken_is_as_many_as_are_fewer(self):
        for board in samples.sample_boards(3):
            for ways in samples.BOTH_WAYS:
                game = games.Game(board, ways)
                stages = [(game.rows(), game.left(), game.points())]
                told = []
                while game.can_take():
                    before = game.left()
                    told.append(game.take(game.can_take()[len(told) % len(game.can_take())]))
                    self.assertEqual(told[-1], before - game.left())
                    stages.append((game.rows(), game.left(), game.points()))
                self.assertEqual(game.points(), sum(many * many for many in told))
                self.check_back_and_forth(game, stages, told)
                self.check_a_twin(game, stages)

    def check_back_and_forth(self, game, stages, told):
        for place in reversed(range(len(told))):
            self.assertEqual(game.back(), told[place])
            self.assertEqual((game.rows(), game.left(), game.points()), stages[place])
            self.assertEqual(game.steps(), (place, len(told) - place))
        for place, many in enumerate(told):
            self.assertEqual(game.forth(), many)
            self.assertEqual((game.rows(), game.left(), game.points()), stages[place + 1])
            self.assertEqual(game.steps(), (place + 1, len(told) - place - 1))

    def check_a_twin(self, game, stages):
        other = game.twin()
        for stage in reversed(stages[:-1]):
            other.back()
            self.assertEqual((other.rows(), other.left(), other.points()), stage)
            self.assertEqual((game.rows(), game.left(), game.points()), stages[-1])
        if len(stages) > 1:
            other.take(other.can_take()[-1])
            self.assertEqual(other.steps(), (1, 0))
            self.assertEqual(game.steps(), (len(stages) - 1, 0))


def list_calls():
    board = ("aab", "bab", "abb")
    return [
        (boards.cells, (board,)),
        (boards.beside, (board, (1, 1), 8)),
        (boards.beside, (("a",), (0, 0), 4)),
        (boards.letters, (board,)),
        (patches.patch_of, (board, (0, 0), 4)),
        (patches.patches, (board, 4)),
        (patches.numbered, (board, 8)),
        (patches.way, (board, 4, (0, 0), (1, 1))),
        (patches.way, (board, 4, (0, 0), (0, 0))),
        (measures.shut_in, (("aaaa", "abca", "aaaa"), 4, 0)),
        (measures.shut_in, (board, 4, 0)),
        (measures.touching, (board, 4)),
        (measures.touching, (("a",), 4)),
        (measures.at_edge, (board, 4)),
        (painting.cuts, (board, 4)),
        (painting.cuts, (("a",), 8)),
        (painting.fewest_paints, (board, 4)),
        (painting.fewest_paints, (("a",), 4)),
        (melting.steps_of, (board, 4, 3)),
        (melting.steps_of, (("a",), 4, 3)),
        (scanning.seam, (board, board, 8)),
        (scanning.seam, (("a",), ("b",), 4)),
        (scanning.sizes_together, (board, board, 4)),
        (maps.neighbours, (board, 4, 0)),
        (maps.neighbours, (("a",), 4, 0)),
        (parts.found_in, (board, ("ab",))),
        (parts.found_in, (board, ("f",))),
        (games.Game(board, 4).can_take, ()),
        (games.Game(("a",), 4).can_take, ()),
    ]


class TestNewLists(unittest.TestCase):
    def test_changed_and_asked_again(self):
        for function, handed in list_calls():
            with self.subTest(function.__name__):
                first = function(*handed)
                kept = copy.deepcopy(first)
                for part in first:
                    if isinstance(part, list):
                        part.reverse()
                        part.append("spoilt")
                first.reverse()
                first.append("spoilt")
                self.assertEqual(function(*handed), kept)

    def test_no_list_is_told_twice(self):
        for function, handed in list_calls():
            with self.subTest(function.__name__):
                first = function(*handed)
                second = function(*handed)
                self.assertIsNot(first, second)
                inner = [part for part in first + second if isinstance(part, list)]
                self.assertEqual(len({id(part) for part in inner}), len(inner))


class TestHandedIn(unittest.TestCase):
    def test_lists_are_as_they_were(self):
        board = ("aab", "bab")
        things = [
            [], [(0, 0)], [(0, 0), (0, 1), (1, 1)], [(1, 1), (0, 1), (0, 0)], [(0, 1), (0, 1), (0, 0), (1, 1)],
            [[0, 0], [0, 1]], [None, [True, ("a",)]],
        ]
        for thing in things:
            for function in (patches.is_way, patches.is_fence):
                for other in ((1, 1), (1, 0)):
                    kept = copy.deepcopy(thing)
                    function(board, 4, (0, 0), other, thing)
                    self.assertEqual(thing, kept)

    def test_refused_lists_are_as_they_were(self):
        no_board = ["ab", ["cd"]]
        no_cell = [0, [0]]
        with self.assertRaises(NoBoard):
            boards.cells(no_board)
        with self.assertRaises(NoCell):
            boards.letter_at(("ab",), no_cell)
        self.assertEqual(no_board, ["ab", ["cd"]])
        self.assertEqual(no_cell, [0, [0]])

    def test_boards_are_as_they_were(self):
        board = ("aab", "bab")
        boards.with_letter(board, (0, 0), "f")
        boards.turned(board)
        boards.mirrored(board)
        boards.stacked(board, board)
        patches.numbered(board, 4)
        painting.painted(board, (0, 0), 4, "f")
        painting.paints_over(board, 4, ["f", "b"])
        painting.fewest_paints(board, 4)
        melting.melted(board, 4, 6)
        scanning.seam(board, board, 4)
        scanning.sizes_together(board, board, 8)
        texts.numbers_text(board, 4)
        keepers.Keeper(board, 4).paint((0, 0), "f")
        maps.middle(board, 4)
        roads.fewest_changes(board, 4, (0, 0), (1, 0))
        parts.cut_out(board, 0, 0, 1, 1)
        parts.relettered(board)
        parts.swapped(board, "a", "b")
        games.Game(board, 4).take((0, 0))
        self.assertEqual(board, ("aab", "bab"))

    def test_letters_are_as_they_were(self):
        for letters in [[], ["b"], ["f", "b", "b"]]:
            kept = list(letters)
            painting.paints_over(("aab", "bab"), 4, letters)
            roads.steps_over(("aab", "bab"), 4, letters, (0, 0), (0, 2))
            self.assertEqual(letters, kept)
        letters = ["f", ["b"], "a"]
        with self.assertRaises(NoLetter):
            painting.paints_over(("aab", "bab"), 4, letters)
        with self.assertRaises(NoLetter):
            roads.steps_over(("aab", "bab"), 4, letters, (0, 0), (0, 2))
        self.assertEqual(letters, ["f", ["b"], "a"])

    def test_equal_boards_are_told_alike(self):
        one = ("aab", "bab")
        other = tuple("".join(signs) for signs in (["a", "a", "b"], ["b", "a", "b"]))
        for ways in samples.BOTH_WAYS:
            self.assertEqual(patches.patches(one, ways), patches.patches(other, ways))
            self.assertIs(patches.are_one(one, ways, (0, 0), tuple([1, 1])), True)


BOARD_PART = (("aab", "bab"), [None, ["aab"], ("ab", "a"), (), 4], NoBoard)
CELL_PART = ((0, 0), [None, (2, 0), (0, -1), [0, 0], (True, 0)], NoCell)
WAYS_PART = (4, [None, 5, True, "4", [8]], NoWays)
LETTER_PART = ("a", [None, "g", "", ["a"], 1], NoLetter)
LETTERS_PART = (["b"], [["g"], ["a", None], [1, "a"], ["b", ["a"]], None, "b", ("b",)], NoLetter)
NUMBER_PART = (0, [None, -1, 3, True, "0", [0], (0,)], NoNumber)
SPOT_PART = (0, [None, -1, 3, True, "0", [0]], NoCell)
TEXT_PART = ("a\n", [None, "", "a", "g\n", ["a\n"]], NoText)
LEAST_PART = (2, [None, 0, 65, -2, True, "2", [2], (2,)], NoNumber)

CALLS = [
    (boards.cells, [BOARD_PART]),
    (boards.letter_at, [BOARD_PART, CELL_PART]),
    (boards.with_letter, [BOARD_PART, CELL_PART, LETTER_PART]),
    (boards.beside, [BOARD_PART, CELL_PART, WAYS_PART]),
    (boards.turned, [BOARD_PART]),
    (boards.mirrored, [BOARD_PART]),
    (boards.stacked, [BOARD_PART, BOARD_PART]),
    (boards.letters, [BOARD_PART]),
    (patches.patch_of, [BOARD_PART, CELL_PART, WAYS_PART]),
    (patches.patches, [BOARD_PART, WAYS_PART]),
    (patches.how_many, [BOARD_PART, WAYS_PART]),
    (patches.numbered, [BOARD_PART, WAYS_PART]),
    (patches.are_one, [BOARD_PART, WAYS_PART, CELL_PART, CELL_PART]),
    (patches.way, [BOARD_PART, WAYS_PART, CELL_PART, CELL_PART]),
    (measures.size, [BOARD_PART, WAYS_PART, NUMBER_PART]),
    (measures.rim, [BOARD_PART, WAYS_PART, NUMBER_PART]),
    (measures.box, [BOARD_PART, WAYS_PART, NUMBER_PART]),
    (measures.shut_in, [BOARD_PART, WAYS_PART, NUMBER_PART]),
    (measures.holes, [BOARD_PART, WAYS_PART, NUMBER_PART]),
    (measures.touching, [BOARD_PART, WAYS_PART]),
    (measures.greatest, [BOARD_PART, WAYS_PART]),
    (measures.at_edge, [BOARD_PART, WAYS_PART]),
    (painting.painted, [BOARD_PART, CELL_PART, WAYS_PART, LETTER_PART]),
    (painting.change, [BOARD_PART, CELL_PART, WAYS_PART, LETTER_PART]),
    (painting.cuts, [BOARD_PART, WAYS_PART]),
    (painting.paints_over, [BOARD_PART, WAYS_PART, LETTERS_PART]),
    (painting.fewest_paints, [BOARD_PART, WAYS_PART]),
    (melting.melted_once, [BOARD_PART, WAYS_PART, LEAST_PART]),
    (melting.melted, [BOARD_PART, WAYS_PART, LEAST_PART]),
    (melting.steps_of, [BOARD_PART, WAYS_PART, LEAST_PART]),
    (scanning.seam, [BOARD_PART, BOARD_PART, WAYS_PART]),
    (scanning.how_many_together, [BOARD_PART, BOARD_PART, WAYS_PART]),
    (scanning.sizes_together, [BOARD_PART, BOARD_PART, WAYS_PART]),
    (keepers.Keeper, [BOARD_PART, WAYS_PART]),
    (keepers.Keeper(("aab", "bab"), 4).mark, [CELL_PART, LETTER_PART]),
    (keepers.Keeper(("aab", "bab"), 4).paint, [CELL_PART, LETTER_PART]),
    (keepers.Keeper(("aab", "bab"), 4).melt, [LEAST_PART]),
    (texts.board_text, [BOARD_PART]),
    (texts.numbers_text, [BOARD_PART, WAYS_PART]),
    (texts.read_board, [TEXT_PART]),
    (maps.neighbours, [BOARD_PART, WAYS_PART, NUMBER_PART]),
    (maps.borders, [BOARD_PART, WAYS_PART, NUMBER_PART, NUMBER_PART]),
    (maps.middle, [BOARD_PART, WAYS_PART]),
    (roads.fewest_changes, [BOARD_PART, WAYS_PART, CELL_PART, CELL_PART]),
    (roads.steps_over, [BOARD_PART, WAYS_PART, LETTERS_PART, CELL_PART, CELL_PART]),
    (parts.cut_out, [BOARD_PART, SPOT_PART, SPOT_PART, SPOT_PART, SPOT_PART]),
    (parts.found_in, [BOARD_PART, BOARD_PART]),
    (parts.relettered, [BOARD_PART]),
    (parts.are_like, [BOARD_PART, BOARD_PART]),
    (parts.swapped, [BOARD_PART, LETTER_PART, LETTER_PART]),
    (games.Game, [BOARD_PART, WAYS_PART]),
    (games.Game(("aab", "bab"), 4).take, [CELL_PART]),
]


class TestWhichRefusal(unittest.TestCase):
    def check(self, function, parts, handed, spoilt, more=()):
        """Only the first refusal may come, and all that stands above it must catch it."""
        wanted = parts[min(spoilt)][2]
        with self.assertRaises(PatchError, msg=(function.__name__, handed)) as caught:
            function(*handed, *more)
        self.assertIs(type(caught.exception), wanted, (function.__name__, handed))
        self.assertIsInstance(caught.exception, ValueError)

    def check_all(self, function, parts, more=()):
        for spoiling in product((False, True), repeat=len(parts)):
            spoilt = [place for place, is_spoilt in enumerate(spoiling) if is_spoilt]
            if not spoilt:
                continue
            choices = [part[1] if is_spoilt else [part[0]] for part, is_spoilt in zip(parts, spoiling)]
            for handed in product(*choices):
                self.check(function, parts, handed, spoilt, more)

    def test_what_is_handed_in_first(self):
        for function, parts in CALLS:
            with self.subTest(function.__name__):
                self.check_all(function, parts)

    def test_ways_and_fences(self):
        parts = [BOARD_PART, WAYS_PART, CELL_PART, CELL_PART]
        for thing in ([(0, 0)], [], None, "way"):
            self.check_all(patches.is_way, parts, (thing,))
            self.check_all(patches.is_fence, parts, (thing,))

    def test_boards_ahead_of_their_fit(self):
        for thing in BOARD_PART[1]:
            for good in [("ab",), ("abc",) * 8]:
                for one, other in [(good, thing), (thing, good)]:
                    with self.assertRaises(NoBoard):
                        boards.stacked(one, other)
        with self.assertRaises(NoFit) as caught:
            boards.stacked(("a",) * 8, ("ab",))
        self.assertIsInstance(caught.exception, PatchError)

    def test_a_cell_is_one_of_that_board(self):
        for board, cell in [(("ab",), (1, 0)), (("a", "b"), (0, 1)), (("abc", "abc"), (2, 1))]:
            with self.assertRaises(NoCell):
                boards.letter_at(board, cell)
            self.assertIsInstance(boards.letter_at(boards.turned(board), cell), str)


if __name__ == "__main__":
    unittest.main()
