"""Views told in other sizes."""

from pacehall.errors import NoCount, NoShape
from pacehall.places import count_of, is_number_below, is_place, number_of, paces_of, place_at
from pacehall.plain import forms_part_at, plain, plain_axes
from pacehall.views import MOST_AXES, View, is_size


def are_sizes(thing):
    return isinstance(thing, list) and len(thing) <= MOST_AXES and all([is_size(size) for size in thing])


def refuse_sizes(view, sizes):
    if not are_sizes(sizes) or count_of(sizes) != view.count():
        raise NoCount("these are no sizes of the view's count")


# If there is a view of these sizes, these are its axes: each pace is seen at the first step along its axis.
def axes_by_first_steps(view, sizes):
    axes = []
    for size, pace in zip(sizes, paces_of(sizes)):
        axes.append((size, view.cell_at(pace) - view.first if size > 1 else 0))
    return axes


def with_number(place, axis, number):
    return place[:axis] + (number,) + tuple([0] * (len(place) - axis - 1))


# At this place the cell is not the one that the axes tell, at the first place of all it is. On the way from there to
# here, axis by axis, it goes wrong somewhere, and the step that does it is looked for by halving.
def fault_on_the_way(view, sizes, axes, place):

    def strays(there):
        by_axes = sum([number * axis[1] for number, axis in zip(there, axes)])
        return view.cell_at(number_of(sizes, there)) != view.first + by_axes

    axis = 0
    while not strays(with_number(place, axis, place[axis])):
        axis = axis + 1
    good = 0
    bad = place[axis]
    while bad - good > 1:
        middle = (good + bad) // 2
        if strays(with_number(place, axis, middle)):
            bad = middle
        else:
            good = middle
    return (with_number(place, axis, bad), axis)


def shaped(view, sizes):
    refuse_sizes(view, sizes)
    axes = axes_by_first_steps(view, sizes)
    number = forms_part_at(plain(view), plain_axes(axes))
    if number is None:
        return View(view.room, view.first, axes)
    fault = fault_on_the_way(view, sizes, axes, place_at(sizes, number))
    raise NoShape(fault[0], fault[1])


def is_fault(view, sizes, place, axis):
    refuse_sizes(view, sizes)
    if not is_place(sizes, place) or not is_number_below(axis, len(sizes)) or place[axis] == 0:
        return False
    number = number_of(sizes, place)
    pace = paces_of(sizes)[axis]
    return view.cell_at(number) - view.cell_at(number - pace) != view.cell_at(pace) - view.first
