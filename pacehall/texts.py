"""Numbers and moves in words."""

from pacehall.chains import MOST_MOVES, Chain, move_of
from pacehall.errors import NoRow
from pacehall.views import MOST_AXES

FIGURES = "0123456789"
MOST_FIGURES = 20

# How many words stand behind each one; behind turn there are none to eight.
MOVES = {
    "stay": 0, "slice": 4, "pick": 2, "fresh": 1, "spread": 2, "cut": 2, "window": 2, "diagonal": 2,
}


def refuse_row(good):
    if not good:
        raise NoRow("these words say nothing here")


def is_number(word):
    figures = word[1:] if word.startswith("-") else word
    if not 1 <= len(figures) <= MOST_FIGURES or not all([figure in FIGURES for figure in figures]):
        return False
    return word == "0" or figures[0] != "0"


def number_in(word):
    refuse_row(is_number(word))
    return int(word)


def bound_in(word):
    return None if word == "-" else number_in(word)


def read_one(words):
    refuse_row(len(words) > 0)
    if words[0] == "turn":
        refuse_row(len(words) <= MOST_AXES + 1)
        return move_of(("turn", [number_in(word) for word in words[1:]]))
    refuse_row(words[0] in MOVES and len(words) == MOVES[words[0]] + 1)
    if words[0] == "slice":
        return move_of(("slice", number_in(words[1])) + tuple([bound_in(word) for word in words[2:]]))
    return move_of((words[0],) + tuple([number_in(word) for word in words[1:]]))


def split_by_then(words):
    groups = [[]]
    for word in words:
        if word == "then":
            groups.append([])
        else:
            groups[-1].append(word)
    return groups


def read_move(words):
    refuse_row(isinstance(words, list) and all([isinstance(word, str) for word in words]))
    groups = split_by_then(words)
    refuse_row(len(groups) <= MOST_MOVES)
    moves = [read_one(group) for group in groups]
    return moves[0] if len(moves) == 1 else Chain(moves)


def shown(thing):
    return "-" if thing is None else str(thing)


def show_told(told):
    if told[0] == "chain":
        return " then ".join([show_told(part) for part in told[1]])
    things = told[1] if told[0] == "turn" else list(told[1:])
    return " ".join([told[0]] + [shown(thing) for thing in things])


def show_move(move):
    return show_told(move.told())
