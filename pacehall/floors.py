"""Whole floors, and what is asked of views beside their own cells."""

from pacehall.errors import NoPair
from pacehall.places import count_of, paces_of, place_at
from pacehall.views import View


def whole(sizes, room=None):
    cells = count_of(sizes) if room is None else room
    return View(cells, 0, list(zip(sizes, paces_of(sizes))))


def same_view(one, other):
    return one.room == other.room and one.first == other.first and one.axes == other.axes


def has_twice(view):
    seen = {}
    for number, cell in enumerate(view.cells()):
        if cell in seen:
            return (place_at(view.sizes(), seen[cell]), place_at(view.sizes(), number))
        seen[cell] = number
    return None


def refuse_rooms(one, other):
    if one.room != other.room:
        raise NoPair("the views are of floors of unlike rooms")
