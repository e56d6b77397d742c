"""[7.1] A keeper of a board: what it shows, what mark, paint and melt tell, what undo takes back."""

import unittest

import samples
from cellpatches.boards import with_letter
from cellpatches.errors import NoBoard, NoCell, NoLetter, NoNumber, NoWays, Nothing
from cellpatches.keepers import Keeper

BENT = (
    "aab",
    "bab",
    "abb",
)


def plain_melted(board, ways, least):
    then = board
    while then is not None:
        board = then
        then = samples.plain_melted_once(board, ways, least)
    return board


def plain_many(board, ways):
    return len(samples.plain_patches(board, ways))


def drawn_steps(board, many):
    """So many steps on the board, (what, ..) each; the same ones each time."""
    state = 7
    told = []
    for _ in range(many):
        state = (state * 1103515245 + 12345) % 2 ** 31
        pick = state >> 8
        cell = (pick % len(board), pick // 8 % len(board[0]))
        letter = "abcdef"[pick // 64 % 6]
        told.append([("mark", cell, letter), ("paint", cell, letter), ("melt", 1 + pick % 4)][pick // 512 % 3])
    return told


def plain_step(board, ways, step):
    if step[0] == "mark":
        return samples.plain_marked(board, [step[1]], step[2])
    if step[0] == "paint":
        return samples.plain_painted(board, step[1], ways, step[2])
    return plain_melted(board, ways, step[1])


def taken_back(keeper):
    """All boards that the keeper shows while it is taken back to the end."""
    told = [keeper.shown()]
    while True:
        try:
            keeper.undo()
        except Nothing:
            return told
        told.append(keeper.shown())


class TestNewKeeper(unittest.TestCase):
    def test_shown_and_many(self):
        self.assertEqual(Keeper(BENT, 4).shown(), BENT)
        self.assertEqual(Keeper(BENT, 4).many(), 4)
        self.assertEqual(Keeper(BENT, 8).many(), 2)
        for board in samples.sample_boards(1):
            for ways in samples.BOTH_WAYS:
                keeper = Keeper(board, ways)
                self.assertEqual(keeper.shown(), board)
                self.assertEqual(keeper.many(), plain_many(board, ways))

    def test_nothing_to_undo(self):
        for board in (BENT, ("a",)):
            for ways in samples.BOTH_WAYS:
                keeper = Keeper(board, ways)
                for _ in range(3):
                    with self.assertRaises(Nothing):
                        keeper.undo()
                    self.assertEqual(keeper.shown(), board)
                    self.assertEqual(keeper.many(), plain_many(board, ways))

    def test_no_board(self):
        for thing in samples.no_boards():
            with self.assertRaises(NoBoard, msg=repr(thing)):
                Keeper(thing, 4)

    def test_no_ways(self):
        for thing in samples.no_ways():
            with self.assertRaises(NoWays, msg=repr(thing)):
                Keeper(BENT, thing)

    def test_the_board_first(self):
        for board in (None, (), ["a"], ("ab", "a"), 4):
            for ways in (None, 5, True, "4", [8]):
                with self.assertRaises(NoBoard):
                    Keeper(board, ways)


class TestSteps(unittest.TestCase):
    def test_mark(self):
        for ways in samples.BOTH_WAYS:
            for board, cell, letter, more in [
                (("aaa",), (0, 1), "b", 2), (("aaa",), (0, 2), "b", 1), (("aba",), (0, 1), "a", -2),
                (("abb",), (0, 0), "b", -1), (("aab",), (0, 1), "b", 0), (("a",), (0, 0), "f", 0),
                (("aaa",), (0, 1), "a", 0),
            ]:
                keeper = Keeper(board, ways)
                self.assertEqual(keeper.mark(cell, letter), more, (board, cell, letter, ways))
                self.assertEqual(keeper.shown(), samples.plain_marked(board, [cell], letter))
                self.assertEqual(keeper.many(), plain_many(board, ways) + more)
        self.assertEqual(Keeper(("bab", "aaa", "bab"), 4).mark((1, 1), "c"), 4)
        self.assertEqual(Keeper(("bab", "aaa", "bab"), 8).mark((1, 1), "c"), 1)

    def test_paint(self):
        for board, cell, ways, letter, then, more in [
            (BENT, (0, 0), 4, "c", ("ccb", "bcb", "abb"), 0),
            (BENT, (0, 0), 8, "c", ("ccb", "bcb", "cbb"), 0),
            (BENT, (1, 1), 4, "b", ("bbb", "bbb", "abb"), -2),
            (BENT, (1, 0), 8, "a", ("aaa", "aaa", "aaa"), -1),
            (("abab",), (0, 1), 4, "a", ("aaab",), -2),
            (("aab",), (0, 0), 4, "a", ("aab",), 0),
            (("a",), (0, 0), 8, "b", ("b",), 0),
        ]:
            keeper = Keeper(board, ways)
            self.assertEqual(keeper.paint(cell, letter), more, (board, cell, ways, letter))
            self.assertEqual(keeper.shown(), then)
            self.assertEqual(keeper.many(), plain_many(board, ways) + more)

    def test_melt(self):
        for board, ways, least, then, more in [
            (("ab", "ba"), 4, 2, ("bb", "bb"), -3),
            (("ab", "ba"), 8, 2, ("ab", "ba"), 0),
            (("ab", "ba"), 8, 3, ("bb", "bb"), -1),
            (("aabccc",), 4, 3, ("cccccc",), -2),
            (("aabccc",), 8, 2, ("aacccc",), -1),
            (("aabccc",), 8, 1, ("aabccc",), 0),
            (("a",), 4, 64, ("a",), 0),
        ]:
            keeper = Keeper(board, ways)
            self.assertEqual(keeper.melt(least), more, (board, ways, least))
            self.assertEqual(keeper.shown(), then)
            self.assertEqual(keeper.many(), plain_many(board, ways) + more)

    def test_more_behind_a_paint_is_never(self):
        # A paint only joins patches, whatever the letter.
        for board in samples.drawn_boards(2):
            for ways in samples.BOTH_WAYS:
                for cell, letter in zip(samples.plain_cells(board)[::4], "abcdef" * 11):
                    self.assertLessEqual(Keeper(board, ways).paint(cell, letter), 0)

    def test_many_steps_and_all_of_them_back(self):
        signs = set()
        for board in samples.sample_boards(1):
            for ways in samples.BOTH_WAYS:
                keeper = Keeper(board, ways)
                shown = [board]
                for step in drawn_steps(board, 12):
                    then = plain_step(shown[-1], ways, step)
                    more = plain_many(then, ways) - plain_many(shown[-1], ways)
                    told = getattr(keeper, step[0])(*step[1:])
                    self.assertEqual((told, keeper.shown()), (more, then), (shown[-1], ways, step))
                    self.assertEqual(keeper.many(), plain_many(then, ways))
                    self.assertIs(type(told), int)
                    shown.append(then)
                    signs.add((step[0], (told > 0) - (told < 0)))
                self.assertEqual(taken_back(keeper), shown[::-1])
        wanted = {("mark", 1), ("mark", 0), ("mark", -1), ("paint", 0), ("paint", -1), ("melt", 0), ("melt", -1)}
        self.assertEqual(signs, wanted)

    def test_kinds(self):
        keeper = Keeper(BENT, 4)
        for step in (lambda: keeper.mark((0, 0), "c"), lambda: keeper.paint((0, 1), "d"), lambda: keeper.melt(2)):
            self.assertIs(type(step()), int)
            self.assertIs(type(keeper.shown()), tuple)
            self.assertTrue(all(type(row) is str for row in keeper.shown()))
            self.assertIs(type(keeper.many()), int)


class TestUndo(unittest.TestCase):
    def test_it_tells_none(self):
        keeper = Keeper(BENT, 4)
        keeper.mark((0, 0), "c")
        self.assertIsNone(keeper.undo())

    def test_one_of_each(self):
        for ways in samples.BOTH_WAYS:
            keeper = Keeper(BENT, ways)
            for step in (
                lambda: keeper.mark((1, 1), "f"), lambda: keeper.paint((0, 0), "b"), lambda: keeper.melt(9),
            ):
                step()
                self.assertNotEqual(keeper.shown(), BENT)
                keeper.undo()
                self.assertEqual(keeper.shown(), BENT)
                self.assertEqual(keeper.many(), plain_many(BENT, ways))
                with self.assertRaises(Nothing):
                    keeper.undo()

    def test_several_one_by_one(self):
        keeper = Keeper(("aabccc",), 4)
        keeper.mark((0, 0), "d")
        keeper.paint((0, 2), "a")
        keeper.melt(2)
        wanted = [("aaaccc",), ("daaccc",), ("dabccc",), ("aabccc",)]
        self.assertEqual(taken_back(keeper), wanted)
        self.assertEqual(keeper.shown(), ("aabccc",))
        with self.assertRaises(Nothing):
            keeper.undo()

    def test_what_leaves_the_board_as_it_is(self):
        for ways in samples.BOTH_WAYS:
            keeper = Keeper(BENT, ways)
            self.assertEqual(keeper.mark((0, 0), "a"), 0)
            self.assertEqual(keeper.paint((0, 2), "b"), 0)
            self.assertEqual(keeper.melt(1), 0)
            keeper.mark((1, 1), "f")
            self.assertEqual(taken_back(keeper), [("aab", "bfb", "abb"), BENT, BENT, BENT, BENT])

    def test_a_melt_of_many_patches_is_one_step(self):
        keeper = Keeper(samples.CHECKERED, 4)
        self.assertEqual(keeper.melt(64), -63)
        keeper.undo()
        self.assertEqual(keeper.shown(), samples.CHECKERED)
        with self.assertRaises(Nothing):
            keeper.undo()

    def test_on_from_what_is_taken_back(self):
        keeper = Keeper(("aaa",), 4)
        keeper.mark((0, 0), "b")
        keeper.mark((0, 1), "c")
        keeper.undo()
        keeper.mark((0, 2), "d")
        self.assertEqual(keeper.shown(), ("bad",))
        self.assertEqual(taken_back(keeper), [("bad",), ("baa",), ("aaa",)])


REFUSED = []
for bad_cell in samples.no_cells(BENT):
    REFUSED.append((NoCell, "mark", (bad_cell, "a")))
    REFUSED.append((NoCell, "paint", (bad_cell, "a")))
for bad_letter in samples.no_letters():
    REFUSED.append((NoLetter, "mark", ((0, 0), bad_letter)))
    REFUSED.append((NoLetter, "paint", ((0, 0), bad_letter)))
for bad_least in samples.no_numbers(1, 64):
    REFUSED.append((NoNumber, "melt", (bad_least,)))
for bad_cell in (None, (3, 0), [0, 0], (True, 0)):
    for bad_letter in (None, "g", "", ["a"], 1):
        REFUSED.append((NoCell, "mark", (bad_cell, bad_letter)))
        REFUSED.append((NoCell, "paint", (bad_cell, bad_letter)))


class TestRefusals(samples.Refusing):
    def keeper_refuses(self, keeper, refusal, name, handed):
        self.refused(refusal, getattr(keeper, name), *handed)

    def test_of_a_new_keeper(self):
        for refusal, name, handed in REFUSED:
            for ways in samples.BOTH_WAYS:
                keeper = Keeper(BENT, ways)
                self.keeper_refuses(keeper, refusal, name, handed)
                self.assertEqual(taken_back(keeper), [BENT])

    def test_all_is_as_ahead(self):
        for ways in samples.BOTH_WAYS:
            keeper = Keeper(BENT, ways)
            keeper.mark((0, 0), "c")
            keeper.paint((1, 1), "b")
            board, many = keeper.shown(), keeper.many()
            for refusal, name, handed in REFUSED:
                self.keeper_refuses(keeper, refusal, name, handed)
                self.assertEqual((keeper.shown(), keeper.many()), (board, many))
            self.assertEqual(taken_back(keeper), [board, ("cab", "bab", "abb"), BENT])
            for _ in range(3):
                self.keeper_refuses(keeper, Nothing, "undo", ())
                self.assertEqual((keeper.shown(), keeper.many()), (BENT, plain_many(BENT, ways)))
            keeper.mark((0, 0), "d")
            self.assertEqual(taken_back(keeper), [("dab", "bab", "abb"), BENT])

    def test_a_cell_of_this_board(self):
        keeper = Keeper(("ab",), 4)
        self.keeper_refuses(keeper, NoCell, "mark", ((1, 0), "a"))
        keeper.mark((0, 1), "c")
        self.keeper_refuses(keeper, NoCell, "paint", ((1, 0), "a"))
        self.keeper_refuses(Keeper(("a", "b"), 4), NoCell, "paint", ((0, 1), "a"))


class TestTwoKeepers(unittest.TestCase):
    def test_each_goes_by_itself(self):
        one, other, third = Keeper(BENT, 4), Keeper(BENT, 4), Keeper(BENT, 8)
        one.mark((0, 0), "f")
        self.assertEqual((other.shown(), other.many(), third.many()), (BENT, 4, 2))
        with self.assertRaises(Nothing):
            other.undo()
        other.paint((1, 1), "b")
        other.melt(2)
        self.assertEqual(one.shown(), ("fab", "bab", "abb"))
        one.undo()
        self.assertEqual(other.shown(), ("bbb", "bbb", "bbb"))
        self.assertEqual(taken_back(other), [("bbb", "bbb", "bbb"), ("bbb", "bbb", "abb"), BENT])
        with self.assertRaises(Nothing):
            one.undo()
        self.assertEqual(taken_back(third), [BENT])

    def test_the_board_handed_in_is_as_it_was(self):
        board = ("aab", "bab")
        keeper = Keeper(board, 4)
        keeper.mark((0, 0), "f")
        keeper.paint((0, 1), "b")
        keeper.melt(6)
        self.assertEqual(board, ("aab", "bab"))
        told = keeper.shown()
        self.assertEqual(with_letter(told, (0, 0), "e")[0][0], "e")
        self.assertEqual(keeper.shown(), told)


if __name__ == "__main__":
    unittest.main()
