"""[12.1] A game: what is taken and falls, what can be taken, points. [12.2] Back, forth, steps and twins."""

import unittest

import samples
from cellpatches.errors import NoBoard, NoCell, NoWays, Nothing
from cellpatches.games import Game

BENT = (
    "aab",
    "bab",
    "abb",
)


def plain_fallen(rows):
    """Each letter above an empty cell goes down by one, till there is none."""
    grid = [list(row) for row in rows]
    moved = True
    while moved:
        moved = False
        for above, below in zip(grid, grid[1:]):
            for column, sign in enumerate(above):
                if sign != "." and below[column] == ".":
                    above[column], below[column] = ".", sign
                    moved = True
    return tuple("".join(row) for row in grid)


def plain_can_take(rows, ways):
    return [patch[0] for patch in samples.plain_patches(rows, ways) if len(patch) > 1 and at(rows, patch[0]) != "."]


def at(rows, cell):
    return rows[cell[0]][cell[1]]


class PlainGame:
    """What a game is to tell: all that was taken and not taken back, and all that can be taken again."""

    def __init__(self, board, ways):
        self.board, self.ways, self.taken, self.again = board, ways, [], []

    def rows(self):
        return self.taken[-1][1] if self.taken else self.board

    def can_take(self):
        return plain_can_take(self.rows(), self.ways)

    def take(self, cell):
        patch = samples.plain_patch(self.rows(), cell, self.ways)
        self.taken.append((len(patch), plain_fallen(samples.plain_marked(self.rows(), patch, "."))))
        self.again = []
        return len(patch)

    def left(self):
        return sum(sign != "." for row in self.rows() for sign in row)

    def points(self):
        return sum(many ** 2 for many, _ in self.taken)

    def back(self):
        self.again.append(self.taken.pop())
        return self.again[-1][0]

    def forth(self):
        self.taken.append(self.again.pop())
        return self.taken[-1][0]

    def steps(self):
        return (len(self.taken), len(self.again))

    def twin(self):
        other = PlainGame(self.board, self.ways)
        other.taken, other.again = list(self.taken), list(self.again)
        return other


def shown(game):
    return (game.rows(), game.can_take(), game.left(), game.points(), game.steps())


def played(board, ways, cells):
    game = Game(board, ways)
    for cell in cells:
        game.take(cell)
    return game


def picks():
    """Numbers without an end; the same ones each time."""
    state = 99
    while True:
        state = (state * 1103515245 + 12345) % 2 ** 31
        yield state >> 8


class TestNewGame(samples.Refusing):
    def test_known_games(self):
        self.assertEqual(shown(Game(BENT, 4)), (BENT, [(0, 0), (0, 2)], 9, 0, (0, 0)))
        self.assertEqual(shown(Game(BENT, 8)), (BENT, [(0, 0), (0, 2)], 9, 0, (0, 0)))
        self.assertEqual(shown(Game(("ab", "ba"), 4)), (("ab", "ba"), [], 4, 0, (0, 0)))
        self.assertEqual(shown(Game(("ab", "ba"), 8)), (("ab", "ba"), [(0, 0), (0, 1)], 4, 0, (0, 0)))
        self.assertEqual(shown(Game(("a",), 4)), (("a",), [], 1, 0, (0, 0)))

    def test_the_first_cells_of_patches_of_two_or_more(self):
        self.assertEqual(Game(("abb", "cab", "aac"), 4).can_take(), [(0, 1), (1, 1)])
        self.assertEqual(Game(("abb", "cab", "aac"), 8).can_take(), [(0, 0), (0, 1)])
        self.assertEqual(Game(("bba", "aaa"), 4).can_take(), [(0, 0), (0, 2)])
        self.assertEqual(Game(samples.CHECKERED, 4).can_take(), [])

    def test_many_boards(self):
        for board in samples.sample_boards(2):
            for ways in samples.BOTH_WAYS:
                game = Game(board, ways)
                self.assertEqual(shown(game), shown(PlainGame(board, ways)), (board, ways))

    def test_kinds(self):
        game = played(BENT, 4, [(0, 0)])
        self.assertIs(type(game.rows()), tuple)
        self.assertTrue(all(type(row) is str for row in game.rows()))
        self.assertIs(type(game.can_take()), list)
        self.assertIs(type(game.left()), int)
        self.assertIs(type(game.points()), int)
        self.assertIs(type(game.steps()), tuple)
        self.assertIs(type(game.twin()), Game)
        self.assertIs(type(game.take((0, 2))), int)

    def test_refusals(self):
        for thing in samples.no_boards() + [("a.",), ("..",), ("..b", "b.b", "abb")]:
            self.refused(NoBoard, Game, thing, 4)
            self.refused(NoBoard, Game, thing, 5)
        for thing in samples.no_ways():
            self.refused(NoWays, Game, BENT, thing)


class TestTake(unittest.TestCase):
    def check(self, board, ways, cell, many, rows):
        game = Game(board, ways)
        self.assertEqual(game.take(cell), many, (board, ways, cell))
        self.assertEqual(game.rows(), rows, (board, ways, cell))
        self.assertEqual(game.left(), sum(len(row) for row in board) - many)
        self.assertEqual(game.points(), many * many)
        self.assertEqual(game.steps(), (1, 0))

    def test_by_the_ways(self):
        for cell in ((0, 0), (0, 1), (1, 1)):
            self.check(BENT, 4, cell, 3, ("..b", "b.b", "abb"))
        for cell in ((0, 0), (0, 1), (1, 1), (2, 0)):
            self.check(BENT, 8, cell, 4, ("..b", "..b", "bbb"))
        self.check(BENT, 4, (2, 1), 4, ("a..", "ba.", "aa."))
        self.check(BENT, 8, (1, 0), 5, ("...", "aa.", "aa."))
        self.check(("ab", "ba"), 8, (0, 1), 2, ("..", "aa"))

    def test_nothing_falls(self):
        for ways in samples.BOTH_WAYS:
            self.check(("aab",), ways, (0, 0), 2, ("..b",))
            self.check(("aab",), ways, (0, 1), 2, ("..b",))
            self.check(("baab",), ways, (0, 1), 2, ("b..b",))
            self.check(("a", "a", "b"), ways, (1, 0), 2, (".", ".", "b"))
            self.check(("aa",), ways, (0, 0), 2, ("..",))

    def test_past_one(self):
        for ways in samples.BOTH_WAYS:
            self.check(("bcd", "aae"), ways, (1, 0), 2, ("..d", "bce"))
            self.check(("bc", "de", "aa"), ways, (2, 1), 2, ("..", "bc", "de"))
            self.check(("bc", "aa", "de"), ways, (1, 0), 2, ("..", "bc", "de"))

    def test_past_several(self):
        for ways in samples.BOTH_WAYS:
            self.check(("c", "a", "a", "b"), ways, (1, 0), 2, (".", ".", "c", "b"))
            self.check(("b", "c", "a", "a", "a"), ways, (4, 0), 3, (".", ".", ".", "b", "c"))
            self.check(("bc", "ae", "aa", "aa"), ways, (1, 0), 5, ("..", "..", ".c", "be"))

    def test_past_empty_cells_apart(self):
        for ways in samples.BOTH_WAYS:
            self.check(("aab", "cab", "aad"), ways, (0, 0), 5, ("..b", "..b", "c.d"))
            self.check(("bae", "aad", "caf", "aad", "dab"), ways, (1, 0), 7, ("..e", "..d", "b.f", "c.d", "d.b"))

    def test_in_several_columns(self):
        for ways in samples.BOTH_WAYS:
            self.check(("bcde", "aaaa", "edcb"), ways, (1, 3), 4, ("....", "bcde", "edcb"))
            self.check(("bcde", "caaf", "daab"), ways, (1, 1), 4, ("b..e", "c..f", "dcdb"))
            self.check(("aaaa", "bccb", "aaaa"), ways, (0, 0), 4, ("....", "bccb", "aaaa"))

    def test_not_sideways(self):
        for ways in samples.BOTH_WAYS:
            self.check(("bac", "bac"), ways, (0, 1), 2, ("b.c", "b.c"))

    def test_the_patch_alone(self):
        # Not the other patches of its letter.
        self.check(("aabaa",), 4, (0, 3), 2, ("aab..",))
        self.check(("aabaa",), 8, (0, 1), 2, ("..baa",))

    def test_what_fell_is_taken_together(self):
        game = played(("abc", "bba", "caa"), 4, [(0, 1)])
        self.assertEqual(game.rows(), ("..c", "a.a", "caa"))
        self.assertEqual(game.can_take(), [(1, 2)])
        game = played(("ab", "ba", "cc"), 4, [(2, 0)])
        self.assertEqual((game.rows(), game.can_take()), (("..", "ab", "ba"), []))
        game = played(("abc", "ddb"), 4, [(1, 0)])
        self.assertEqual((game.rows(), game.can_take()), (("..c", "abb"), [(1, 1)]))
        self.assertEqual(game.take((1, 2)), 2)
        self.assertEqual((game.rows(), game.points(), game.left()), (("...", "a.c"), 8, 2))

    def test_empty_cells_are_no_patch(self):
        game = played(("aab", "aac"), 4, [(0, 0)])
        self.assertEqual(game.rows(), ("..b", "..c"))
        self.assertEqual(game.can_take(), [])
        # And no way between letters, either.
        game = played(("baab",), 8, [(0, 1)])
        self.assertEqual(game.can_take(), [])

    def test_points_over_several(self):
        game = Game(("aabbbcdd", "aaffccee"), 4)
        told = [game.take(cell) for cell in ((0, 0), (0, 2), (1, 4))]
        self.assertEqual(told, [4, 3, 3])
        self.assertEqual((game.points(), game.left()), (16 + 9 + 9, 6))

    def test_whole_games(self):
        over = 0
        for board in samples.sample_boards(2):
            for ways in samples.BOTH_WAYS:
                for which in (0, -1):
                    game, plain = Game(board, ways), PlainGame(board, ways)
                    while plain.can_take():
                        cell = plain.can_take()[which]
                        self.assertEqual(game.take(cell), plain.take(cell), (board, ways, cell))
                        self.assertEqual(shown(game), shown(plain), (board, ways, cell))
                    self.assertEqual(game.can_take(), [])
                    over += game.left() == 0
        self.assertGreater(over, 5)

    def test_any_cell_of_a_patch(self):
        for board in samples.drawn_boards(2, [(3, 3), (4, 4), (3, 5)]):
            for ways in samples.BOTH_WAYS:
                for patch in samples.plain_patches(board, ways):
                    if len(patch) > 1:
                        for cell in patch:
                            self.assertEqual(shown(played(board, ways, [cell])), shown(played(board, ways, patch[:1])))


class TestRefusedTakes(samples.Refusing):
    def none_taken(self, game, cells):
        ahead = shown(game)
        for cell in cells:
            self.refused(NoCell, game.take, cell)
            self.assertEqual(shown(game), ahead, cell)

    def test_no_cells(self):
        for board in (BENT, ("aa",), ("a", "a"), ("a",), ("a" * 8,) * 8):
            for ways in samples.BOTH_WAYS:
                self.none_taken(Game(board, ways), samples.no_cells(board))

    def test_a_patch_of_one_cell(self):
        self.none_taken(Game(BENT, 4), [(1, 0), (2, 0)])
        for ways in samples.BOTH_WAYS:
            self.none_taken(Game(("a",), ways), [(0, 0)])
            self.none_taken(Game(("abc", "def"), ways), samples.plain_cells(("abc", "def")))
        self.none_taken(Game(samples.CHECKERED, 4), samples.plain_cells(samples.CHECKERED))

    def test_a_cell_without_a_letter(self):
        for ways in samples.BOTH_WAYS:
            self.none_taken(played(("aab", "aab"), ways, [(0, 0)]), [(0, 0), (0, 1), (1, 0), (1, 1)])
            self.none_taken(played(("aab",), ways, [(0, 0)]), [(0, 0), (0, 1), (0, 2)])
            self.none_taken(played(("aa", "aa"), ways, [(0, 0)]), samples.plain_cells(("aa", "aa")))

    def test_what_can_be_taken_again_is_left(self):
        for ways in samples.BOTH_WAYS:
            game = played(("aabbcd", "aabbdc"), ways, [(0, 0), (0, 2)])
            game.back()
            self.none_taken(game, [(0, 0), (1, 1), (2, 0), None, [0, 2], (True, 2), "a", (-1, 2)])
            self.assertEqual(game.steps(), (1, 1))
            self.assertEqual(game.forth(), 4)
            self.assertEqual(game.steps(), (2, 0))

    def test_all_that_can_not_be_taken(self):
        for board in samples.drawn_boards(2, [(3, 3), (2, 5), (4, 4)]):
            for ways in samples.BOTH_WAYS:
                game, plain = Game(board, ways), PlainGame(board, ways)
                while plain.can_take():
                    cell = plain.can_take()[0]
                    self.assertEqual(game.take(cell), plain.take(cell))
                    good = set()
                    for first in plain.can_take():
                        good |= samples.plain_patch(plain.rows(), first, ways)
                    self.none_taken(game, set(samples.plain_cells(board)) - good)


class TestBackAndForth(samples.Refusing):
    board = ("aabbcd", "aabbdc", "eeffff")

    def test_nothing_of_a_new_game(self):
        for board in (self.board, ("a",)):
            for ways in samples.BOTH_WAYS:
                game = Game(board, ways)
                ahead = shown(game)
                for _ in range(2):
                    self.refused(Nothing, game.back)
                    self.refused(Nothing, game.forth)
                    self.assertEqual(shown(game), ahead)

    def test_one(self):
        game = Game(self.board, 4)
        new = shown(game)
        self.assertEqual(game.take((2, 3)), 4)
        taken = shown(game)
        self.assertEqual(taken[3:], (16, (1, 0)))
        self.refused(Nothing, game.forth)
        self.assertEqual(shown(game), taken)
        for _ in range(3):
            self.assertEqual(game.back(), 4)
            self.assertEqual(shown(game), new[:4] + ((0, 1),))
            self.refused(Nothing, game.back)
            self.assertEqual(shown(game), new[:4] + ((0, 1),))
            self.assertEqual(game.forth(), 4)
            self.assertEqual(shown(game), taken)
            self.refused(Nothing, game.forth)
            self.assertEqual(shown(game), taken)

    def test_several(self):
        for ways in samples.BOTH_WAYS:
            game = Game(self.board, ways)
            stages = [(game.rows(), game.points())]
            for cell, many in (((2, 0), 2), ((2, 5), 4), ((1, 0), 4)):
                self.assertEqual(game.take(cell), many)
                stages.append((game.rows(), game.points()))
            self.assertEqual([points for _, points in stages], [0, 4, 20, 36])
            for place, many in ((2, 4), (1, 4), (0, 2)):
                self.assertEqual(game.back(), many)
                self.assertEqual((game.rows(), game.points()), stages[place])
                self.assertEqual(game.steps(), (place, 3 - place))
            self.refused(Nothing, game.back)
            for place, many in ((1, 2), (2, 4), (3, 4)):
                self.assertEqual(game.forth(), many)
                self.assertEqual((game.rows(), game.points()), stages[place])
                self.assertEqual(game.steps(), (place, 3 - place))
            self.refused(Nothing, game.forth)

    def test_behind_a_take_nothing_is_taken_again(self):
        game = played(self.board, 4, [(2, 0), (2, 5), (1, 0)])
        game.back()
        game.back()
        self.assertEqual(game.steps(), (1, 2))
        self.assertEqual(game.take((0, 2)), 4)
        self.assertEqual(game.steps(), (2, 0))
        self.assertEqual(game.points(), 4 + 16)
        ahead = shown(game)
        self.refused(Nothing, game.forth)
        self.assertEqual(shown(game), ahead)
        self.assertEqual((game.back(), game.back()), (4, 2))
        self.assertEqual((game.rows(), game.points(), game.steps()), (self.board, 0, (0, 2)))

    def test_the_same_taken_once_more(self):
        game = played(self.board, 4, [(2, 0), (2, 5)])
        game.back()
        game.back()
        game.take((2, 0))
        self.assertEqual(game.steps(), (1, 0))
        self.refused(Nothing, game.forth)

    def test_patches_of_many_sizes(self):
        game = Game(("abbcccdd",), 4)
        self.assertEqual([game.take(cell) for cell in ((0, 3), (0, 6), (0, 1))], [3, 2, 2])
        self.assertEqual(game.points(), 9 + 4 + 4)
        self.assertEqual([game.back(), game.points()], [2, 13])
        self.assertEqual([game.back(), game.points()], [2, 9])
        self.assertEqual([game.back(), game.points()], [3, 0])
        self.assertEqual([game.forth(), game.points()], [3, 9])


class TestTwins(samples.Refusing):
    board = ("aabbcd", "aabbdc", "eeffff")

    def test_of_a_new_game(self):
        game = Game(self.board, 4)
        other = game.twin()
        self.assertIsNot(other, game)
        self.assertEqual(shown(other), shown(game))
        new = shown(game)
        game.take((0, 0))
        self.assertEqual(shown(other), new)
        self.refused(Nothing, other.back)
        self.refused(Nothing, other.forth)
        self.assertEqual(other.take((2, 5)), 4)
        self.assertEqual(shown(game), shown(played(self.board, 4, [(0, 0)])))
        self.assertEqual(shown(other), shown(played(self.board, 4, [(2, 5)])))

    def test_by_the_same_ways(self):
        for ways in samples.BOTH_WAYS:
            other = Game(("ab", "ba"), ways).twin()
            self.assertEqual(len(other.can_take()), 2 if ways == 8 else 0)

    def test_of_one_partly_taken_back(self):
        game = played(self.board, 4, [(2, 0), (2, 5), (1, 0)])
        game.back()
        game.back()
        other = game.twin()
        self.assertEqual(shown(other), shown(game))
        self.assertEqual(other.steps(), (1, 2))
        # The one goes forth, the other goes back.
        self.assertEqual((game.forth(), game.forth()), (4, 4))
        self.assertEqual(other.steps(), (1, 2))
        self.assertEqual(other.back(), 2)
        self.assertEqual(game.steps(), (3, 0))
        self.assertEqual((other.forth(), other.forth(), other.forth()), (2, 4, 4))
        self.assertEqual(shown(other), shown(game))

    def test_a_take_leaves_the_others_forth(self):
        for takes_first in (True, False):
            game = played(self.board, 4, [(2, 0), (2, 5), (1, 0)])
            game.back()
            game.back()
            other = game.twin()
            one, rest = (game, other) if takes_first else (other, game)
            one.take((0, 2))
            self.assertEqual((one.steps(), rest.steps()), ((2, 0), (1, 2)))
            self.refused(Nothing, one.forth)
            self.assertEqual((rest.forth(), rest.forth(), rest.back()), (4, 4, 4))
            self.assertEqual((one.back(), one.back()), (4, 2))
            self.assertEqual((one.rows(), rest.steps()), (self.board, (2, 1)))

    def test_a_twins_twin(self):
        game = played(self.board, 4, [(2, 0), (2, 5)])
        game.back()
        other = game.twin()
        third = other.twin()
        self.assertEqual(shown(third), shown(game))
        other.take((0, 2))
        self.assertEqual((game.steps(), other.steps(), third.steps()), ((1, 1), (2, 0), (1, 1)))
        self.assertEqual(third.forth(), 4)
        game.back()
        self.assertEqual((game.steps(), other.steps(), third.steps()), ((0, 2), (2, 0), (2, 0)))
        self.assertEqual(game.twin().twin().twin().steps(), (0, 2))

    def test_a_twin_tells_the_first_board(self):
        game = played(self.board, 4, [(2, 0), (2, 5)])
        other = game.twin()
        other.back()
        other.back()
        self.assertEqual(other.rows(), self.board)
        self.refused(Nothing, other.back)


class TestPlayedAtRandom(samples.Refusing):
    def step(self, games, pick):
        game, plain = games[pick % len(games)]
        what = pick // 16 % 8
        if what == 0:
            games.append((game.twin(), plain.twin()))
        elif what < 3:
            if plain.taken:
                self.assertEqual(game.back(), plain.back())
            else:
                self.refused(Nothing, game.back)
        elif what < 5:
            if plain.again:
                self.assertEqual(game.forth(), plain.forth())
            else:
                self.refused(Nothing, game.forth)
        elif plain.can_take():
            cell = plain.can_take()[pick // 128 % len(plain.can_take())]
            self.assertEqual(game.take(cell), plain.take(cell))
        else:
            self.refused(NoCell, game.take, (0, 0))

    def test_many_games(self):
        numbers = picks()
        for board in samples.drawn_boards(2, [(3, 3), (4, 4), (3, 6), (8, 2), (6, 6)]):
            for ways in samples.BOTH_WAYS:
                games = [(Game(board, ways), PlainGame(board, ways))]
                for _ in range(40):
                    self.step(games, next(numbers))
                    for game, plain in games:
                        self.assertEqual(game.steps(), plain.steps())
                        self.assertEqual((game.rows(), game.points()), (plain.rows(), plain.points()))
                for game, plain in games:
                    self.assertEqual(shown(game), shown(plain))


if __name__ == "__main__":
    unittest.main()
