"""Boards and the numbers of their patches as texts, and texts read as boards."""

from cellpatches.boards import is_board, need_board
from cellpatches.errors import NoText
from cellpatches.patches import numbered


def as_lines(rows):
    return "".join([row + "\n" for row in rows])


def two_figures(number):
    return str(number).zfill(2)


def board_text(board):
    need_board(board)
    return as_lines(board)


def numbers_text(board, ways):
    told = []
    for numbers in numbered(board, ways):
        told.append(" ".join([two_figures(number) for number in numbers]))
    return as_lines(told)


def read_board(text):
    if not isinstance(text, str) or not text.endswith("\n"):
        raise NoText("a text whose rows are each ended by a line feed is asked for")
    # Split at line feeds alone, as other signs that end a line are no part of any board's text.
    board = tuple(text[:-1].split("\n"))
    if not is_board(board):
        raise NoText("the text of a board is asked for")
    return board
