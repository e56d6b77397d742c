"""Games in which patches are taken and letters fall, step by step back and forth."""

from cellpatches.boards import letter_of, need_board, need_cell, need_ways, with_letters
from cellpatches.errors import NoCell, Nothing
from cellpatches.patches import all_patches, steps_back

EMPTY = "."


def can_be_taken(rows, patch):
    # Cells without a letter hang together like those of one letter.
    return len(patch) > 1 and letter_of(rows, patch[0]) != EMPTY


def patch_to_take(rows, cell, ways):
    need_cell(rows, cell)
    patch = sorted(steps_back(rows, cell, ways))
    if not can_be_taken(rows, patch):
        raise NoCell("a cell with a letter, of a patch of two cells or more, is asked for")
    return patch


def fallen_column(rows, column):
    signs = "".join([row[column] for row in rows])
    return signs.replace(EMPTY, "").rjust(len(rows), EMPTY)


def fallen(rows):
    columns = [fallen_column(rows, column) for column in range(len(rows[0]))]
    told = []
    for row in range(len(rows)):
        told.append("".join([signs[row] for signs in columns]))
    return tuple(told)


def many_letters(rows):
    return sum([len(row) - row.count(EMPTY) for row in rows])


class Game:
    def __init__(self, board, ways):
        need_board(board)
        need_ways(ways)
        self.ways = ways
        # The rows at first and behind each take, those behind the place being what was taken back.
        self.stages = [board]
        self.place = 0

    def rows(self):
        return self.stages[self.place]

    def take(self, cell):
        patch = patch_to_take(self.rows(), cell, self.ways)
        then = fallen(with_letters(self.rows(), patch, EMPTY))
        self.stages = self.stages[:self.place + 1] + [then]
        self.place += 1
        return len(patch)

    def can_take(self):
        found = all_patches(self.rows(), self.ways)
        return [patch[0] for patch in found if can_be_taken(self.rows(), patch)]

    def left(self):
        return many_letters(self.rows())

    def taken_behind(self, place):
        return many_letters(self.stages[place]) - many_letters(self.stages[place + 1])

    def points(self):
        taken = [self.taken_behind(place) for place in range(self.place)]
        return sum([many * many for many in taken])

    def back(self):
        if self.place == 0:
            raise Nothing("nothing is left to be taken back")
        self.place -= 1
        return self.taken_behind(self.place)

    def forth(self):
        if self.place == len(self.stages) - 1:
            raise Nothing("nothing is left to be taken again")
        self.place += 1
        return self.taken_behind(self.place - 1)

    def steps(self):
        return (self.place, len(self.stages) - 1 - self.place)

    def twin(self):
        other = Game(self.stages[0], self.ways)
        other.stages = list(self.stages)
        other.place = self.place
        return other
