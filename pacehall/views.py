"""Views: some cells of a floor, by a first cell and by axes, each with a size and a pace."""

from pacehall.errors import NoPlace, NoView
from pacehall.numbers import is_whole
from pacehall.places import count_of, is_place, place_at, refuse_long

MOST_ROOM = 1_000_000_000_000_000_000
MOST_SIZE = 1_000_000_000
MOST_AXES = 8


def is_within(thing, low, high):
    return is_whole(thing) and low <= thing <= high


def is_size(thing):
    return is_within(thing, 1, MOST_SIZE)


def is_axis(thing):
    return isinstance(thing, tuple) and len(thing) == 2 and is_size(thing[0]) and is_whole(thing[1])


def are_axes(thing):
    return isinstance(thing, list) and len(thing) <= MOST_AXES and all([is_axis(axis) for axis in thing])


# An axis of size 1 never takes a step, so whatever its pace was told to be says nothing.
def kept_axis(axis):
    return (axis[0], axis[1] if axis[0] > 1 else 0)


class View:

    def __init__(self, room, first, axes):
        if not is_within(room, 1, MOST_ROOM) or not is_whole(first) or not are_axes(axes):
            raise NoView("this is no room, no first cell or no list of axes")
        self.room = room
        self.first = first
        self.axes = [kept_axis(axis) for axis in axes]
        if self.least() < 0 or self.greatest() >= room:
            raise NoView("some cell would lie outside the floor")

    def sizes(self):
        return [size for size, pace in self.axes]

    def paces(self):
        return [pace for size, pace in self.axes]

    def count(self):
        return count_of(self.sizes())

    def cell(self, place):
        if not is_place(self.sizes(), place):
            raise NoPlace("this is no place of the view")
        return self.first + sum([number * pace for number, pace in zip(place, self.paces())])

    def cell_at(self, number):
        return self.cell(place_at(self.sizes(), number))

    def cells(self):
        refuse_long(self.count())
        found = [self.first]
        for size, pace in self.axes:
            found = widened(found, size, pace)
        return found

    def least(self):
        return self.first + sum([min(0, (size - 1) * pace) for size, pace in self.axes])

    def greatest(self):
        return self.first + sum([max(0, (size - 1) * pace) for size, pace in self.axes])


# Each axis further in runs faster: every cell found so far gives way to a whole row.
def widened(cells, size, pace):
    found = []
    for cell in cells:
        found.extend([cell + number * pace for number in range(size)])
    return found
