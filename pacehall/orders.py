"""Orders of loops that keep a copy, or pairs of places that bar every order."""

from pacehall.floors import refuse_rooms
from pacehall.loops import refuse_order, refuse_sizes_unlike
from pacehall.pairs import bound_pairs
from pacehall.places import is_place


def gap(pair, axis):
    return pair[0][axis] - pair[1][axis]


# The outermost loop along which both places lie apart tells which of them comes first.
def comes_right(pair, order):
    for axis, way in order:
        if gap(pair, axis) != 0:
            return gap(pair, axis) * way > 0
    return False


def keeps(to, source, order):
    refuse_rooms(to, source)
    refuse_sizes_unlike(to, source)
    refuse_order(to.sizes(), order)
    return all([comes_right(pair, order) for pair in bound_pairs(to, source)])


# A loop that brings some pairs in order and none out of it; None where there is no such one.
def helpful_loop(pairs, many):
    for axis in range(many):
        gaps = [gap(pair, axis) for pair in pairs]
        low = min(gaps, default=0)
        high = max(gaps, default=0)
        if low >= 0 and high > 0:
            return (axis, 1)
        if high <= 0 and low < 0:
            return (axis, -1)
    return None


# Along each axis one pair of either sign, where there is any.
def barring_pairs(pairs, many):
    chosen = []
    for axis in range(many):
        above = [pair for pair in pairs if gap(pair, axis) > 0]
        below = [pair for pair in pairs if gap(pair, axis) < 0]
        for pair in above[:1] + below[:1]:
            if pair not in chosen:
                chosen.append(pair)
    return chosen


# A helpful loop may always come next: it takes nothing from those behind it. Pairs left over lie level along
# each axis that was used, and go both ways along each other one that they don't lie level on.
def loop_order(to, source):
    left = bound_pairs(to, source)
    many = len(to.axes)
    order = []
    loop = helpful_loop(left, many)
    while loop is not None:
        order.append(loop)
        left = [pair for pair in left if gap(pair, loop[0]) == 0]
        loop = helpful_loop(left, many)
    if len(left) > 0:
        return ("none", barring_pairs(left, many))
    used = [axis for axis, way in order]
    return ("loops", order + [(axis, 1) for axis in range(many) if axis not in used])


# Places are looked at by themselves first: a truth in one would be taken for the number that it equals.
def is_known_pair(thing, sizes, known):
    if not isinstance(thing, tuple) or len(thing) != 2:
        return False
    return is_place(sizes, thing[0]) and is_place(sizes, thing[1]) and thing in known


def bars_axis(pairs, axis):
    gaps = [gap(pair, axis) for pair in pairs]
    return (min(gaps) < 0 and max(gaps) > 0) or (min(gaps) == 0 and max(gaps) == 0)


def bars(to, source, some):
    known = {}
    for pair in bound_pairs(to, source):
        known[pair] = True
    if not isinstance(some, list) or len(some) == 0:
        return False
    if not all([is_known_pair(thing, to.sizes(), known) for thing in some]):
        return False
    return all([bars_axis(some, axis) for axis in range(len(to.axes))])
