"""What a copy does, cell by cell, and the rings in it."""

from pacehall.floors import refuse_rooms
from pacehall.stores import refuse_count


# Numbers rise, so what is kept for a cell is what was written there last.
def sources(to, source):
    refuse_rooms(to, source)
    refuse_count(to, source.count())
    found = {}
    for cell, origin in zip(to.cells(), source.cells()):
        found[cell] = origin
    return found


# Each cell is walked over once: a walk that meets a cell of its own has closed a ring there, one that meets a cell
# of an earlier walk leads to nothing new.
def ring_from(found, start, walked):
    trail = []
    cell = start
    while cell in found and cell not in walked:
        walked[cell] = start
        trail.append(cell)
        cell = found[cell]
    if walked.get(cell) != start:
        return []
    return trail[trail.index(cell):]


def least_first(ring):
    at = ring.index(min(ring))
    return ring[at:] + ring[:at]


# Which cells are the source of some cell beyond their ring.
def drawn_from_beyond(found, ring_of):
    drawn = {}
    for cell, origin in found.items():
        if ring_of.get(cell) != ring_of.get(origin):
            drawn[origin] = True
    return drawn


def rings(found):
    walked = {}
    ring_of = {}
    closed = []
    for start in sorted(found):
        ring = ring_from(found, start, walked)
        if len(ring) > 1:
            closed.append(least_first(ring))
            for cell in ring:
                ring_of[cell] = closed[-1][0]
    drawn = drawn_from_beyond(found, ring_of)
    told = [(ring, not any([cell in drawn for cell in ring])) for ring in closed]
    return sorted(told, key=first_cell)


def first_cell(ring):
    return ring[0][0]
