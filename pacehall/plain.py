"""The plain form of a view, and whether two views have the same cells by the same numbers."""


# Axes that are joined have the outer pace of both, so what was not joined ahead of them isn't now either.
def plain_axes(axes):
    found = []
    for size, pace in axes:
        if size == 1:
            continue
        if len(found) > 0 and found[-1][1] == size * pace:
            outer = found.pop()
            found.append((outer[0] * size, pace))
        else:
            found.append((size, pace))
    return found


def plain(view):
    return plain_axes(view.axes)


# Of plain forms of one count, with one first cell: the least number at which they part; None where they don't.
# The lesser of two sizes is followed by another axis, whose pace, the form being plain, doesn't go on as before.
def forms_part_at(one, other):
    unit = 1
    inner = list(reversed(one))
    for axis, rival in zip(inner, list(reversed(other))):
        if axis[1] != rival[1]:
            return unit
        if axis[0] != rival[0]:
            return unit * min(axis[0], rival[0])
        unit = unit * axis[0]
    return None


def reads_same(one, other):
    return one.first == other.first and plain(one) == plain(other)


def parted_at(one, other):
    if one.count() != other.count():
        return min(one.count(), other.count())
    if one.first != other.first:
        return 0
    return forms_part_at(plain(one), plain(other))
