"""Bound pairs: places of which one has to be read ahead of the other's being written."""

from pacehall.errors import Twice
from pacehall.floors import has_twice, refuse_rooms
from pacehall.loops import refuse_sizes_unlike
from pacehall.places import places


def refuse_twice(view):
    found = has_twice(view)
    if found is not None:
        raise Twice(found[0], found[1])


# By each cell that the first view has: the place there, where what is written is a new value. So it is never the
# place at which the second view has that cell.
def places_written_anew(to, source, spots):
    found = {}
    for place, cell, origin in zip(spots, to.cells(), source.cells()):
        if cell != origin:
            found[cell] = place
    return found


def bound_pairs(to, source):
    refuse_rooms(to, source)
    refuse_sizes_unlike(to, source)
    refuse_twice(to)
    spots = places(to.sizes())
    written = places_written_anew(to, source, spots)
    found = []
    for place, cell in zip(spots, source.cells()):
        if cell in written:
            found.append((written[cell], place))
    return found
