"""Chains of moves, and moves made of what they tell."""

from pacehall.cuts import Cut, Diagonal, Window
from pacehall.errors import NoMove
from pacehall.moves import Fresh, Move, Pick, Slice, Spread, Turn
from pacehall.numbers import is_whole

MOST_MOVES = 40
MOST_DEEP = 4


class Chain(Move):

    def __init__(self, moves):
        self.moves = list(moves)

    def behind(self, sizes):
        found = list(sizes)
        for move in self.moves:
            found = move.sizes_of(found)
        return found

    # Sizes are known from the first move on, places from the last one back.
    def ahead(self, sizes, place):
        stages = []
        reached = sizes
        for move in self.moves:
            stages.append((move, reached))
            reached = move.sizes_of(reached)
        found = place
        for move, sizes_there in reversed(stages):
            found = move.ahead(sizes_there, found)
        return found

    def told(self):
        return ("chain", [move.told() for move in self.moves])


def refuse_told(good):
    if not good:
        raise NoMove("this is not what a move tells")


# What stands behind the word: so many whole numbers, and nothing else.
def numbers_in(told, many):
    refuse_told(len(told) == many + 1 and all([is_whole(thing) for thing in told[1:]]))
    return told[1:]


# What stands behind the word: one list, and nothing else.
def list_in(told):
    refuse_told(len(told) == 2 and isinstance(told[1], list))
    return told[1]


def made_stay(told):
    numbers_in(told, 0)
    return Move()


def made_slice(told):
    refuse_told(len(told) == 5 and is_whole(told[1]))
    refuse_told(all([thing is None or is_whole(thing) for thing in told[2:]]))
    return Slice(told[1], told[2], told[3], told[4])


def made_pick(told):
    found = numbers_in(told, 2)
    return Pick(found[0], found[1])


def made_turn(told):
    order = list_in(told)
    refuse_told(all([is_whole(thing) for thing in order]))
    return Turn(order)


def made_fresh(told):
    return Fresh(numbers_in(told, 1)[0])


def made_spread(told):
    found = numbers_in(told, 2)
    return Spread(found[0], found[1])


def made_cut(told):
    found = numbers_in(told, 2)
    return Cut(found[0], found[1])


def made_window(told):
    found = numbers_in(told, 2)
    return Window(found[0], found[1])


def made_diagonal(told):
    found = numbers_in(told, 2)
    return Diagonal(found[0], found[1])


MAKERS = {
    "stay": made_stay, "slice": made_slice, "pick": made_pick, "turn": made_turn, "fresh": made_fresh,
    "spread": made_spread, "cut": made_cut, "window": made_window, "diagonal": made_diagonal,
}


# How many moves there are that are no chains.
def others_in(move):
    if isinstance(move, Chain):
        return sum([others_in(part) for part in move.moves])
    return 1


# Counted on the way, so that a list far too great is not made into moves first.
def made_chain(told, deep):
    parts = list_in(told)
    refuse_told(deep <= MOST_DEEP and len(parts) <= MOST_MOVES)
    moves = []
    others = 0
    for part in parts:
        move = made_move(part, deep)
        others = others + others_in(move)
        refuse_told(others <= MOST_MOVES)
        moves.append(move)
    return Chain(moves)


def made_move(told, deep):
    refuse_told(isinstance(told, tuple) and len(told) > 0 and isinstance(told[0], str))
    if told[0] == "chain":
        return made_chain(told, deep + 1)
    refuse_told(told[0] in MAKERS)
    return MAKERS[told[0]](told)


def move_of(told):
    return made_move(told, 0)
