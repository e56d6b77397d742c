"""Patches: cells of one letter that hang together, their numbers, ways and fences between cells."""

from cellpatches.boards import (
    all_cells,
    are_next,
    cells_of_row,
    is_list_of_cells,
    keyed,
    letter_of,
    need_board,
    need_cell,
    need_ways,
    next_cells,
)


def need_two_cells(board, ways, one, other):
    need_board(board)
    need_ways(ways)
    need_cell(board, one)
    need_cell(board, other)


def like_cells(board, cell, ways):
    letter = letter_of(board, cell)
    return [near for near in next_cells(board, cell, ways) if letter_of(board, near) == letter]


# Ring by ring round the start, so that the cell kept for each one is a step nearer to the start.
def steps_back(board, start, ways):
    back = {start: None}
    ring = [start]
    while ring:
        further = []
        for cell in ring:
            for near in like_cells(board, cell, ways):
                if near not in back:
                    back[near] = cell
                    further.append(near)
        ring = further
    return back


def all_patches(board, ways):
    found = []
    seen = {}
    for cell in all_cells(board):
        if cell not in seen:
            patch = sorted(steps_back(board, cell, ways))
            found.append(patch)
            seen.update(keyed(patch))
    return found


def numbers_of(found):
    numbers = {}
    for number, patch in enumerate(found):
        for cell in patch:
            numbers[cell] = number
    return numbers


def part_from(board, start, among, ways):
    part = {start: True}
    ring = [start]
    while ring:
        further = []
        for cell in ring:
            for near in next_cells(board, cell, ways):
                if near in among and near not in part:
                    part[near] = True
                    further.append(near)
        ring = further
    return list(part)


# Unlike patches, these hang together over all cells of the list, whatever their letters.
def parts_of(board, some, ways):
    among = keyed(some)
    parts = []
    seen = {}
    for cell in some:
        if cell not in seen:
            part = part_from(board, cell, among, ways)
            parts.append(part)
            seen.update(keyed(part))
    return parts


def patch_of(board, cell, ways):
    need_board(board)
    need_cell(board, cell)
    need_ways(ways)
    return sorted(steps_back(board, cell, ways))


def patches(board, ways):
    need_board(board)
    need_ways(ways)
    return all_patches(board, ways)


def how_many(board, ways):
    need_board(board)
    need_ways(ways)
    return len(all_patches(board, ways))


def numbered(board, ways):
    need_board(board)
    need_ways(ways)
    numbers = numbers_of(all_patches(board, ways))
    told = []
    for row in range(len(board)):
        told.append([numbers[cell] for cell in cells_of_row(board, row)])
    return told


def are_one(board, ways, one, other):
    need_two_cells(board, ways, one, other)
    return other in steps_back(board, one, ways)


def way(board, ways, one, other):
    need_two_cells(board, ways, one, other)
    # Begun at the other end, as the steps are told backwards.
    back = steps_back(board, other, ways)
    if one not in back:
        return None
    told = [one]
    while told[-1] != other:
        told.append(back[told[-1]])
    return told


def is_way(board, ways, one, other, thing):
    need_two_cells(board, ways, one, other)
    if not is_list_of_cells(board, thing) or len(thing) == 0:
        return False
    if thing[0] != one or thing[-1] != other:
        return False
    letter = letter_of(board, one)
    if not all([letter_of(board, cell) == letter for cell in thing]):
        return False
    return all([are_next(thing[place - 1], thing[place], ways) for place in range(1, len(thing))])


def is_fence(board, ways, one, other, thing):
    need_two_cells(board, ways, one, other)
    if not is_list_of_cells(board, thing):
        return False
    inside = keyed(thing)
    if one not in inside or other in inside:
        return False
    for cell in inside:
        if not all([near in inside for near in like_cells(board, cell, ways)]):
            return False
    return True
