"""Small patches melted away, one by one, into the patches beside them."""

from cellpatches.boards import is_whole, letter_of, need_board, need_ways, with_letters
from cellpatches.errors import NoNumber
from cellpatches.measures import shared_sides
from cellpatches.patches import all_patches

GREATEST_LEAST = 64


def need_melting(board, ways, least):
    need_board(board)
    need_ways(ways)
    if not is_whole(least) or not 1 <= least <= GREATEST_LEAST:
        raise NoNumber("a least number of cells from 1 to 64 is asked for")


def melts_into(board, found, number):
    choices = []
    for pair, sides in shared_sides(board, found).items():
        if number in pair:
            other = pair[0] + pair[1] - number
            # Below 0, so that the most sides and cells come first, and the first number with them.
            choices.append((-sides, -len(found[other]), other))
    return min(choices)[2]


def after_one(board, ways, least):
    found = all_patches(board, ways)
    lengths = [len(patch) for patch in found]
    if len(found) == 1 or min(lengths) >= least:
        return None
    number = lengths.index(min(lengths))
    other = melts_into(board, found, number)
    return with_letters(board, found[number], letter_of(board, found[other][0]))


def all_steps(board, ways, least):
    told = []
    now = board
    while now is not None:
        told.append(now)
        now = after_one(now, ways, least)
    return told


def melted_once(board, ways, least):
    need_melting(board, ways, least)
    return after_one(board, ways, least)


def melted(board, ways, least):
    need_melting(board, ways, least)
    return all_steps(board, ways, least)[-1]


def steps_of(board, ways, least):
    need_melting(board, ways, least)
    return all_steps(board, ways, least)
