"""A keeper of a board that is marked, painted and melted, and can be taken back step by step."""

from cellpatches.boards import need_board, need_ways, with_letter
from cellpatches.errors import Nothing
from cellpatches.melting import melted
from cellpatches.painting import painted
from cellpatches.patches import how_many


class Keeper:
    def __init__(self, board, ways):
        need_board(board)
        need_ways(ways)
        self.ways = ways
        # The first board, then one for each step, also where a step left the board as it was.
        self.boards = [board]

    def shown(self):
        return self.boards[-1]

    def many(self):
        return how_many(self.shown(), self.ways)

    def go_on(self, board):
        many_ahead = self.many()
        self.boards.append(board)
        return self.many() - many_ahead

    def mark(self, cell, letter):
        return self.go_on(with_letter(self.shown(), cell, letter))

    def paint(self, cell, letter):
        return self.go_on(painted(self.shown(), cell, self.ways, letter))

    def melt(self, least):
        return self.go_on(melted(self.shown(), self.ways, least))

    def undo(self):
        if len(self.boards) == 1:
            raise Nothing("nothing is left to be taken back")
        self.boards.pop()
