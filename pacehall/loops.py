"""Orders of loops, and copies in place by them."""

from pacehall.errors import NoCount, NoOrder
from pacehall.floors import whole
from pacehall.numbers import is_whole
from pacehall.places import is_number_below, places


def is_loop(thing, many):
    if not isinstance(thing, tuple) or len(thing) != 2:
        return False
    return is_number_below(thing[0], many) and is_whole(thing[1]) and thing[1] in (1, -1)


def is_order(sizes, thing):
    many = len(sizes)
    if not isinstance(thing, list) or len(thing) != many or not all([is_loop(loop, many) for loop in thing]):
        return False
    return len(set([loop[0] for loop in thing])) == many


def refuse_order(sizes, order):
    if not is_order(sizes, order):
        raise NoOrder("this is no order of loops for the sizes")


def refuse_sizes_unlike(to, source):
    if to.sizes() != source.sizes():
        raise NoCount("the views have unlike sizes")


# Steps are counted by the loops, the outermost first; a loop that goes down counts from its end.
def place_by_steps(sizes, order, steps):
    place = [0] * len(sizes)
    for loop, step in zip(order, steps):
        place[loop[0]] = step if loop[1] == 1 else sizes[loop[0]] - 1 - step
    return tuple(place)


def walk_of(sizes, order):
    refuse_order(sizes, order)
    walk = places([sizes[loop[0]] for loop in order])
    return [place_by_steps(sizes, order, steps) for steps in walk]


def looped(store, to, source, order):
    store.refuse_room(to)
    store.refuse_room(source)
    refuse_sizes_unlike(to, source)
    values = store.all_values()
    for place in walk_of(to.sizes(), order):
        values[to.cell(place)] = values[source.cell(place)]
    store.put(whole([len(values)]), values)
