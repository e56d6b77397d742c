"""Patches: cells of one letter that hang together, their numbers, ways and fences between cells."""

from cellpatches.boards import (
    all_cells,
    are_next,
    cells_of_row,
    is_list_of_cells,
    keyed,
    letter_of,
    need_board,
    need_cell,
    need_ways,
    next_cells,
)


def need_two_cells(board, ways, one, other):
    need_board(board)
    need_ways(ways)
    need_cell(board, one)
    need_cell(board, other)


def like_cells(board, cell, ways):
    letter = letter_of(board, cell)
    return [near for near in next_cells(board, cell, ways) if letter_of(board, near) == letter]


# Ring by ring round the start, so that the cell kept for each one is a step nearer to the start.
def steps_back(board, start, ways):
    back = {start: None}
    ring = [start]
    while ring:
        further = []
        for cell in ring:
            for near in like_cells(board, cell, ways):
                if near not in back:
                    back[near] = cell
                    further.append(near)
        ring = further
    return back


def all_patches(board, ways):
    found = []
    seen = {}
    for cell in all_cells(board):
        if cell not in seen:
            patch = sorted(steps_back(board, cell, ways))
            found.append(patch)
            seen.update(keyed(patch))
    return found


def numbers_of(found):
    numbers = {}
    for number, patch in enumerate(found):
        for cell in patch:
            numbers[cell] = number
    return numbers


# By ways that need not be those by which the patches hang together.
def near_numbers(board, ways, found):
    numbers = numbers_of(found)
    near = {}
    for cell in all_cells(board):
        mine = near.setdefault(numbers[cell], {})
        for other in next_cells(board, cell, ways):
            if numbers[other] != numbers[cell]:
                mine[numbers[other]] = True
    return near


def near_among(board, some, ways):
    among = keyed(some)
    near = {}
    for cell in some:
        near[cell] = [other for other in next_cells(board, cell, ways) if other in among]
    return near


# Of cells or of numbers; ring by ring, so that each one is met first by the fewest steps.
def distances(near, start):
    far = {start: 0}
    ring = [start]
    while ring:
        further = []
        for thing in ring:
            for other in near[thing]:
                if other not in far:
                    far[other] = far[thing] + 1
                    further.append(other)
        ring = further
    return far


# Unlike patches, these hang together over all cells of the list, whatever their letters.
def parts_of(board, some, ways):
    near = near_among(board, some, ways)
    parts = []
    seen = {}
    for cell in some:
        if cell not in seen:
            part = list(distances(near, cell))
            parts.append(part)
            seen.update(keyed(part))
    return parts


def patch_of(board, cell, ways):
    need_board(board)
    need_cell(board, cell)
    need_ways(ways)
    return sorted(steps_back(board, cell, ways))


def patches(board, ways):
    need_board(board)
    need_ways(ways)
    return all_patches(board, ways)


def how_many(board, ways):
    need_board(board)
    need_ways(ways)
    return len(all_patches(board, ways))


def numbered(board, ways):
    need_board(board)
    need_ways(ways)
    numbers = numbers_of(all_patches(board, ways))
    told = []
    for row in range(len(board)):
        told.append([numbers[cell] for cell in cells_of_row(board, row)])
    return told


def are_one(board, ways, one, other):
    need_two_cells(board, ways, one, other)
    return other in steps_back(board, one, ways)


def way(board, ways, one, other):
    need_two_cells(board, ways, one, other)
    # Begun at the other end, as the steps are told backwards.
    back = steps_back(board, other, ways)
    if one not in back:
        return None
    told = [one]
    while told[-1] != other:
        told.append(back[told[-1]])
    return told


def is_way(board, ways, one, other, thing):
    need_two_cells(board, ways, one, other)
    if not is_list_of_cells(board, thing) or len(thing) == 0:
        return False
    if thing[0] != one or thing[-1] != other:
        return False
    letter = letter_of(board, one)
    if not all([letter_of(board, cell) == letter for cell in thing]):
        return False
    return all([are_next(thing[place - 1], thing[place], ways) for place in range(1, len(thing))])


def is_fence(board, ways, one, other, thing):
    need_two_cells(board, ways, one, other)
    if not is_list_of_cells(board, thing):
        return False
    inside = keyed(thing)
    if one not in inside or other in inside:
        return False
    for cell in inside:
        if not all([near in inside for near in like_cells(board, cell, ways)]):
            return False
    return True
