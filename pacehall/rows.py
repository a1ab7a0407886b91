"""Rows: a copy told as single cells brought one after another, as few as can be."""

from pacehall.floors import whole
from pacehall.sources import rings

SPARE = -1


# How many cells still have to be brought the value of each one.
def readers_of(found):
    readers = {}
    for cell, origin in found.items():
        if cell != origin:
            readers[origin] = readers.get(origin, 0) + 1
    return readers


# A cell may be written once nobody needs its value any more. What never comes to that are the rings alone.
def rows_beside_rings(found):
    readers = readers_of(found)
    free = [cell for cell in found if found[cell] != cell and cell not in readers]
    rows = []
    while len(free) > 0:
        cell = free.pop()
        origin = found[cell]
        rows.append((origin, cell))
        readers[origin] = readers[origin] - 1
        if readers[origin] == 0 and found.get(origin, origin) != origin:
            free.append(origin)
    return rows


# The value of the ring's first cell lies elsewhere too, so that cell may be written ahead of all others.
def rows_round(ring, elsewhere):
    rows = []
    for cell, origin in zip(ring, ring[1:]):
        rows.append((origin, cell))
    rows.append((elsewhere, ring[-1]))
    return rows


# Beside the rings all is done by then: a cell beyond that has drawn from a ring keeps a value of it,
# and only a bare ring needs the spare.
def rows_for(found):
    rows = rows_beside_rings(found)
    kept = {}
    for origin, cell in rows:
        kept[origin] = cell
    for ring, bare in rings(found):
        if bare:
            rows.append((ring[0], SPARE))
            rows.extend(rows_round(ring, SPARE))
        else:
            at = [cell in kept for cell in ring].index(True)
            rows.extend(rows_round(ring[at:] + ring[:at], kept[ring[at]]))
    return rows


def run_rows(store, rows):
    values = store.all_values()
    many = len(values)
    # The last one is the spare: a list's cell -1 is just that.
    values.append(0)
    for origin, cell in rows:
        values[cell] = values[origin]
    store.put(whole([many]), values[:many])
