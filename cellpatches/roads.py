"""Ways over letters: the fewest changes of letter, the fewest steps over some letters alone."""

from cellpatches.boards import all_cells, letter_of, need_board, need_cell, need_letters, need_ways
from cellpatches.patches import all_patches, distances, near_among, near_numbers, need_two_cells, numbers_of


# The letter changes just where the patch does, as like cells that are next to one another are of one.
def fewest_changes(board, ways, one, other):
    need_two_cells(board, ways, one, other)
    found = all_patches(board, ways)
    numbers = numbers_of(found)
    return distances(near_numbers(board, ways, found), numbers[one])[numbers[other]]


def steps_over(board, ways, letters, one, other):
    need_board(board)
    need_ways(ways)
    need_letters(letters)
    need_cell(board, one)
    need_cell(board, other)
    near = near_among(board, [cell for cell in all_cells(board) if letter_of(board, cell) in letters], ways)
    if one not in near:
        return None
    return distances(near, one).get(other)
