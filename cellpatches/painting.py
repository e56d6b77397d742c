"""Patches painted over, cells that hold patches together, the fewest paints that make a board one."""

from cellpatches.boards import (
    LETTERS,
    letter_of,
    need_board,
    need_cell,
    need_letter,
    need_letters,
    need_ways,
    with_letters,
)
from cellpatches.patches import all_patches, near_numbers, parts_of, steps_back


def need_paint(board, cell, ways, letter):
    need_board(board)
    need_cell(board, cell)
    need_ways(ways)
    need_letter(letter)


def holds_together(board, ways, patch, cell):
    rest = [member for member in patch if member != cell]
    return len(parts_of(board, rest, ways)) > 1


def drawn_in(taken, near, signs, letter):
    more = {}
    for number in taken:
        more[number] = True
        for other in near[number]:
            if signs[other] == letter:
                more[other] = True
    return tuple(sorted(more))


def painted(board, cell, ways, letter):
    need_paint(board, cell, ways, letter)
    return with_letters(board, steps_back(board, cell, ways), letter)


def change(board, cell, ways, letter):
    need_paint(board, cell, ways, letter)
    then = with_letters(board, [cell], letter)
    return len(all_patches(then, ways)) - len(all_patches(board, ways))


def cuts(board, ways):
    need_board(board)
    need_ways(ways)
    told = []
    for patch in all_patches(board, ways):
        told.extend([cell for cell in patch if holds_together(board, ways, patch, cell)])
    return sorted(told)


def paints_over(board, ways, letters):
    need_board(board)
    need_ways(ways)
    need_letters(letters)
    now = board
    for letter in letters:
        now = with_letters(now, steps_back(now, (0, 0), ways), letter)
    return now


# What is painted is told by the numbers of the patches drawn in so far: with which letter does not
# matter for what comes, and this leaves far fewer to go through than boards would.
def fewest_paints(board, ways):
    need_board(board)
    need_ways(ways)
    found = all_patches(board, ways)
    # By the ways, as over corners too a paint draws in what it meets there, not only over sides.
    near = near_numbers(board, ways, found)
    signs = [letter_of(board, patch[0]) for patch in found]
    whole = tuple(range(len(found)))
    paints = {(0,): []}
    ring = [(0,)]
    while whole not in paints:
        further = []
        for taken in ring:
            for letter in LETTERS:
                more = drawn_in(taken, near, signs, letter)
                if more not in paints:
                    paints[more] = paints[taken] + [letter]
                    further.append(more)
        ring = further
    return paints[whole]
