"""What patches measure: their cells, rims, boxes and holes, and which of them share sides."""

from cellpatches.boards import all_cells, is_whole, keyed, need_board, need_ways, next_cells
from cellpatches.errors import NoNumber
from cellpatches.patches import all_patches, numbers_of, parts_of


def need_number(many, thing):
    if not is_whole(thing) or not 0 <= thing < many:
        raise NoNumber("the number of a patch of the board is asked for")


def patch_of_number(board, ways, number):
    need_board(board)
    need_ways(ways)
    found = all_patches(board, ways)
    need_number(len(found), number)
    return found[number]


def is_at_edge(board, cell):
    return cell[0] in (0, len(board) - 1) or cell[1] in (0, len(board[0]) - 1)


def comes_to_edge(board, some):
    return any([is_at_edge(board, cell) for cell in some])


# A way past the board's edge leads over a cell at it, so a part without such a cell is shut in whole.
def shut_parts(board, ways, patch):
    inside = keyed(patch)
    others = [cell for cell in all_cells(board) if cell not in inside]
    other_ways = 8 if ways == 4 else 4
    return [part for part in parts_of(board, others, other_ways) if not comes_to_edge(board, part)]


def shared_sides(board, found):
    numbers = numbers_of(found)
    shared = {}
    for cell in all_cells(board):
        for near in next_cells(board, cell, 4):
            # Each side is met from both of its cells, and counted from one of them alone.
            if numbers[cell] < numbers[near]:
                pair = (numbers[cell], numbers[near])
                shared[pair] = shared.get(pair, 0) + 1
    return shared


def size(board, ways, number):
    return len(patch_of_number(board, ways, number))


def rim(board, ways, number):
    patch = patch_of_number(board, ways, number)
    inside = keyed(patch)
    told = 0
    for cell in patch:
        # Less those with the patch behind them, as sides at the board's edge have no cell to be met.
        told += 4 - len([near for near in next_cells(board, cell, 4) if near in inside])
    return told


def box(board, ways, number):
    patch = patch_of_number(board, ways, number)
    rows = [cell[0] for cell in patch]
    columns = [cell[1] for cell in patch]
    return (min(rows), min(columns), max(rows), max(columns))


def shut_in(board, ways, number):
    patch = patch_of_number(board, ways, number)
    told = []
    for part in shut_parts(board, ways, patch):
        told.extend(part)
    return sorted(told)


def holes(board, ways, number):
    patch = patch_of_number(board, ways, number)
    return len(shut_parts(board, ways, patch))


def touching(board, ways):
    need_board(board)
    need_ways(ways)
    return sorted(shared_sides(board, all_patches(board, ways)).items())


def greatest(board, ways):
    need_board(board)
    need_ways(ways)
    lengths = [len(patch) for patch in all_patches(board, ways)]
    return lengths.index(max(lengths))


def at_edge(board, ways):
    need_board(board)
    need_ways(ways)
    return [number for number, patch in enumerate(all_patches(board, ways)) if comes_to_edge(board, patch)]
