"""Moves: what makes views of views. Each tells sizes behind it and, of a place behind, the place ahead."""

from pacehall.errors import NoCells, NoMove, NoPlace, NoStep
from pacehall.places import is_number_below, is_place
from pacehall.spans import span
from pacehall.views import MOST_AXES, View, is_size


def refuse_unless(fits):
    if not fits:
        raise NoMove("the move doesn't fit these sizes")


def refuse_axis(sizes, axis):
    refuse_unless(is_number_below(axis, len(sizes)))


# The axis gives way to those told, none or more of them; so do numbers of a place.
def replaced(row, axis, told):
    return list(row[:axis]) + list(told) + list(row[axis + 1:])


# Only for an axis that takes a step: behind every move, steps along an axis are all alike.
def place_one_along(many, axis):
    return tuple([1 if k == axis else 0 for k in range(many)])


class Move:

    # The sizes behind, bounds aside; a move that doesn't fit is refused here.
    def behind(self, sizes):
        return list(sizes)

    # Asked only where the move fits and the place is one of those behind.
    def ahead(self, sizes, place):
        return place

    def sizes_of(self, sizes):
        found = self.behind(sizes)
        refuse_unless(len(found) <= MOST_AXES and all([is_size(size) for size in found]))
        return found

    def place_of(self, sizes, place):
        if not is_place(self.sizes_of(sizes), place):
            raise NoPlace("this is no place behind the move")
        return self.ahead(sizes, place)

    def on(self, view):
        sizes = view.sizes()
        found = self.sizes_of(sizes)
        many = len(found)
        first = view.cell(self.ahead(sizes, tuple([0] * many)))
        axes = []
        for axis, size in enumerate(found):
            pace = 0
            if size > 1:
                pace = view.cell(self.ahead(sizes, place_one_along(many, axis))) - first
            axes.append((size, pace))
        return View(view.room, first, axes)

    def told(self):
        return ("stay",)


class Slice(Move):

    def __init__(self, axis, start=None, stop=None, step=None):
        self.axis = axis
        self.start = start
        self.stop = stop
        self.step = step

    def taken(self, sizes):
        refuse_axis(sizes, self.axis)
        try:
            return span(sizes[self.axis], self.start, self.stop, self.step)
        except (NoStep, NoCells) as e:
            raise NoMove("the axis can't be cut by this span") from e

    def behind(self, sizes):
        return replaced(sizes, self.axis, [self.taken(sizes)[1]])

    def ahead(self, sizes, place):
        found = self.taken(sizes)
        return tuple(replaced(place, self.axis, [found[0] + place[self.axis] * found[2]]))

    def told(self):
        return ("slice", self.axis, self.start, self.stop, self.step)


class Pick(Move):

    def __init__(self, axis, at):
        self.axis = axis
        self.at = at

    def picked(self, sizes):
        return self.at + sizes[self.axis] if self.at < 0 else self.at

    def behind(self, sizes):
        refuse_axis(sizes, self.axis)
        refuse_unless(is_number_below(self.picked(sizes), sizes[self.axis]))
        return replaced(sizes, self.axis, [])

    def ahead(self, sizes, place):
        return place[:self.axis] + (self.picked(sizes),) + place[self.axis:]

    def told(self):
        return ("pick", self.axis, self.at)


class Turn(Move):

    def __init__(self, order):
        self.order = list(order)

    def behind(self, sizes):
        refuse_unless(sorted(self.order) == list(range(len(sizes))))
        return [sizes[axis] for axis in self.order]

    def ahead(self, sizes, place):
        found = list(place)
        for number, axis in zip(place, self.order):
            found[axis] = number
        return tuple(found)

    def told(self):
        return ("turn", list(self.order))


class Fresh(Move):

    def __init__(self, axis):
        self.axis = axis

    def behind(self, sizes):
        refuse_unless(is_number_below(self.axis, len(sizes) + 1))
        return list(sizes[:self.axis]) + [1] + list(sizes[self.axis:])

    def ahead(self, sizes, place):
        return tuple(replaced(place, self.axis, []))

    def told(self):
        return ("fresh", self.axis)


class Spread(Move):

    def __init__(self, axis, size):
        self.axis = axis
        self.size = size

    def behind(self, sizes):
        refuse_axis(sizes, self.axis)
        refuse_unless(sizes[self.axis] == 1 and is_size(self.size))
        return replaced(sizes, self.axis, [self.size])

    def ahead(self, sizes, place):
        return tuple(replaced(place, self.axis, [0]))

    def told(self):
        return ("spread", self.axis, self.size)
