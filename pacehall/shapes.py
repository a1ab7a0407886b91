"""Views told in other sizes."""

from pacehall.errors import NoCount, NoShape
from pacehall.places import count_of, is_number_below, is_place, number_of, paces_of, place_at
from pacehall.plain import forms_part_at, plain, plain_axes
from pacehall.views import MOST_AXES, View, is_size


def are_sizes(thing):
    return isinstance(thing, list) and len(thing) <= MOST_AXES and all([is_size(size) for size in thing])


def refuse_sizes(view, sizes):
    if not are_sizes(sizes) or count_of(sizes) != view.count():
        raise NoCount("these are no sizes of the view's count")


# If there is a view of these sizes, these are its axes: each pace is seen at the first step along its axis.
def axes_by_first_steps(view, sizes):
    axes = []
    for size, pace in zip(sizes, paces_of(sizes)):
        axes.append((size, view.cell_at(pace) - view.first if size > 1 else 0))
    return axes


def last_axis_moved(place):
    return max([axis for axis, number in enumerate(place) if number > 0])


def shaped(view, sizes):
    refuse_sizes(view, sizes)
    axes = axes_by_first_steps(view, sizes)
    number = forms_part_at(plain(view), plain_axes(axes))
    if number is None:
        return View(view.room, view.first, axes)
    # The number is the least one at which the view and these axes part. One step back along any axis they don't yet,
    # so it is that step which goes wrong.
    place = place_at(sizes, number)
    raise NoShape(place, last_axis_moved(place))


def is_fault(view, sizes, place, axis):
    refuse_sizes(view, sizes)
    if not is_place(sizes, place) or not is_number_below(axis, len(sizes)) or place[axis] == 0:
        return False
    number = number_of(sizes, place)
    pace = paces_of(sizes)[axis]
    return view.cell_at(number) - view.cell_at(number - pace) != view.cell_at(pace) - view.first
