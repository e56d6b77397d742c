"""Boards of letters: their cells, what is beside a cell, boards turned, mirrored and stacked."""

from cellpatches.errors import NoBoard, NoCell, NoFit, NoLetter, NoWays

LETTERS = "abcdef"
MOST_ROWS = 8
MOST_COLUMNS = 8


def is_whole(thing):
    # Python counts a truth as an int; the document does not.
    return isinstance(thing, int) and not isinstance(thing, bool)


def is_letter(thing):
    # The length is asked too, as the empty text and "ab" are found in a text as well.
    return isinstance(thing, str) and len(thing) == 1 and thing in LETTERS


def is_row(thing):
    if not isinstance(thing, str) or not 1 <= len(thing) <= MOST_COLUMNS:
        return False
    return all([is_letter(sign) for sign in thing])


def is_board(thing):
    if not isinstance(thing, tuple) or not 1 <= len(thing) <= MOST_ROWS:
        return False
    if not all([is_row(row) for row in thing]):
        return False
    return all([len(row) == len(thing[0]) for row in thing])


def is_cell(board, thing):
    if not isinstance(thing, tuple) or len(thing) != 2:
        return False
    if not is_whole(thing[0]) or not is_whole(thing[1]):
        return False
    return 0 <= thing[0] < len(board) and 0 <= thing[1] < len(board[0])


def is_list_of_cells(board, thing):
    return isinstance(thing, list) and all([is_cell(board, part) for part in thing])


def need_board(thing):
    if not is_board(thing):
        raise NoBoard("a tuple of 1 to 8 texts of 1 to 8 letters, all as long, is asked for")


def need_cell(board, thing):
    if not is_cell(board, thing):
        raise NoCell("a tuple (row, column) on the board is asked for")


def need_letter(thing):
    if not is_letter(thing):
        raise NoLetter("one of the letters a to f is asked for")


def need_letters(thing):
    if not isinstance(thing, list) or not all([is_letter(part) for part in thing]):
        raise NoLetter("a list of letters from a to f is asked for")


def need_ways(thing):
    if not is_whole(thing) or thing not in (4, 8):
        raise NoWays("ways are 4 or 8")


def need_fit(one, other):
    if len(one[0]) != len(other[0]):
        raise NoFit("the boards are not as wide")
    if len(one) + len(other) > MOST_ROWS:
        raise NoFit("the boards have more than 8 rows together")


# The next ones ask for nothing, so that walks over a board don't look at all of it at each step.


def cells_of_row(board, row):
    return [(row, column) for column in range(len(board[0]))]


def all_cells(board):
    found = []
    for row in range(len(board)):
        found.extend(cells_of_row(board, row))
    return found


def letter_of(board, cell):
    return board[cell[0]][cell[1]]


def are_next(one, other, ways):
    down = abs(one[0] - other[0])
    along = abs(one[1] - other[1])
    if ways == 4:
        return down + along == 1
    return max(down, along) == 1


def next_cells(board, cell, ways):
    found = []
    for row in range(max(cell[0] - 1, 0), min(cell[0] + 2, len(board))):
        for column in range(max(cell[1] - 1, 0), min(cell[1] + 2, len(board[0]))):
            if are_next(cell, (row, column), ways):
                found.append((row, column))
    return found


# To be asked with `in`, which a long list answers slowly.
def keyed(things):
    found = {}
    for thing in things:
        found[thing] = True
    return found


def with_letters(board, some, letter):
    marked = keyed(some)
    told = []
    for row in range(len(board)):
        places = cells_of_row(board, row)
        told.append("".join([letter if cell in marked else letter_of(board, cell) for cell in places]))
    return tuple(told)


def cells(board):
    need_board(board)
    return all_cells(board)


def letter_at(board, cell):
    need_board(board)
    need_cell(board, cell)
    return letter_of(board, cell)


def with_letter(board, cell, letter):
    need_board(board)
    need_cell(board, cell)
    need_letter(letter)
    return with_letters(board, [cell], letter)


def beside(board, cell, ways):
    need_board(board)
    need_cell(board, cell)
    need_ways(ways)
    return next_cells(board, cell, ways)


def column_from_below(board, column):
    return "".join([row[column] for row in reversed(board)])


def turned(board):
    need_board(board)
    return tuple([column_from_below(board, column) for column in range(len(board[0]))])


def mirrored(board):
    need_board(board)
    return tuple([row[::-1] for row in board])


def stacked(one, other):
    need_board(one)
    need_board(other)
    need_fit(one, other)
    return one + other


def letters(board):
    need_board(board)
    signs = "".join(board)
    return [(letter, signs.count(letter)) for letter in LETTERS if letter in signs]
