"""Which patches lie beside one another, how many borders are between them, which one is in the middle."""

from cellpatches.boards import need_board, need_ways
from cellpatches.measures import need_number
from cellpatches.patches import all_patches, distances, near_numbers


# Over sides alone, as a border is a side that two patches share, by whatever ways they hang together.
def map_of(board, ways):
    need_board(board)
    need_ways(ways)
    return near_numbers(board, 4, all_patches(board, ways))


def neighbours(board, ways, number):
    near = map_of(board, ways)
    need_number(len(near), number)
    return sorted(near[number])


# A patch that hangs together over corners is one patch still: within it no border is crossed.
def borders(board, ways, one, other):
    near = map_of(board, ways)
    need_number(len(near), one)
    need_number(len(near), other)
    return distances(near, one)[other]


def middle(board, ways):
    near = map_of(board, ways)
    farthest = [max(distances(near, number).values()) for number in range(len(near))]
    return farthest.index(min(farthest))
