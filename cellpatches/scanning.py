"""Two boards, the one above the other one: what meets over their seam, what patches they have together."""

from cellpatches.boards import are_next, cells_of_row, letter_of, need_board, need_fit, need_ways
from cellpatches.patches import all_patches, numbers_of


def need_two_boards(one, other, ways):
    need_board(one)
    need_board(other)
    need_ways(ways)
    need_fit(one, other)


# As if the row lay just above the other board, whose rows are numbered from 0.
def meets_below(above, below, ways):
    return are_next((-1, above[1]), below, ways)


def seam(one, other, ways):
    need_two_boards(one, other, ways)
    numbers_above = numbers_of(all_patches(one, ways))
    numbers_below = numbers_of(all_patches(other, ways))
    pairs = {}
    for above in cells_of_row(one, len(one) - 1):
        for below in cells_of_row(other, 0):
            if letter_of(one, above) == letter_of(other, below) and meets_below(above, below, ways):
                pairs[(numbers_above[above], numbers_below[below])] = True
    return sorted(pairs)


def how_many_together(one, other, ways):
    need_two_boards(one, other, ways)
    return len(all_patches(one + other, ways))


def sizes_together(one, other, ways):
    need_two_boards(one, other, ways)
    return sorted([len(patch) for patch in all_patches(one + other, ways)])
