"""Parts cut out of boards and found in others; boards with other letters, and boards alike but for them."""

from cellpatches.boards import LETTERS, all_cells, need_board, need_cell, need_letter
from cellpatches.errors import NoCell


def part_between(board, top, left, low, right):
    return tuple([row[left:right + 1] for row in board[top:low + 1]])


# Past the board's edge less is cut out than the part has, so that it is not found there.
def lies_at(board, part, cell):
    low = cell[0] + len(part) - 1
    right = cell[1] + len(part[0]) - 1
    return part_between(board, cell[0], cell[1], low, right) == part


def with_names(board, names):
    told = []
    for row in board:
        told.append("".join([names.get(sign, sign) for sign in row]))
    return tuple(told)


def cut_out(board, top, left, low, right):
    need_board(board)
    need_cell(board, (top, left))
    need_cell(board, (low, right))
    if low < top or right < left:
        raise NoCell("the second cell is to be neither above the first nor left of it")
    return part_between(board, top, left, low, right)


def found_in(board, part):
    need_board(board)
    need_board(part)
    return [cell for cell in all_cells(board) if lies_at(board, part, cell)]


def relettered(board):
    need_board(board)
    names = {}
    for sign in "".join(board):
        if sign not in names:
            names[sign] = LETTERS[len(names)]
    return with_names(board, names)


def are_like(one, other):
    return relettered(one) == relettered(other)


def swapped(board, one, other):
    need_board(board)
    need_letter(one)
    need_letter(other)
    return with_names(board, {one: other, other: one})
