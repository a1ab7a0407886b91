"""Sizes, their places, and the numbers of these, row by row."""

from pacehall.errors import NoPlace, TooMany
from pacehall.numbers import is_whole

# No list of places or of cells is longer than this.
MOST_TOLD = 4096


def count_of(sizes):
    count = 1
    for size in sizes:
        count = count * size
    return count


def paces_of(sizes):
    paces = []
    pace = 1
    for size in reversed(sizes):
        paces.append(pace)
        pace = pace * size
    paces.reverse()
    return paces


# Whatever is handed in may be asked of: its kind is looked at ahead of any comparison.
def is_number_below(thing, bound):
    return is_whole(thing) and 0 <= thing < bound


def is_place(sizes, thing):
    if not isinstance(thing, tuple) or len(thing) != len(sizes):
        return False
    return all([is_number_below(number, size) for number, size in zip(thing, sizes)])


def number_of(sizes, place):
    if not is_place(sizes, place):
        raise NoPlace("this is no place of the sizes")
    return sum([number * pace for number, pace in zip(place, paces_of(sizes))])


# The last axis runs fastest, so it is the first one that can be split off.
def split_number(sizes, number):
    place = []
    left = number
    for size in reversed(sizes):
        place.append(left % size)
        left = left // size
    place.reverse()
    return tuple(place)


def place_at(sizes, number):
    if not is_number_below(number, count_of(sizes)):
        raise NoPlace("this is no number of a place of the sizes")
    return split_number(sizes, number)


# Asked ahead of building a list, so that one that is too long is never begun.
def refuse_long(count):
    if count > MOST_TOLD:
        raise TooMany(count)


def places(sizes):
    count = count_of(sizes)
    refuse_long(count)
    return [split_number(sizes, number) for number in range(count)]
