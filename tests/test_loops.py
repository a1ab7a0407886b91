import unittest

from pacehall.errors import NoCount, NoOrder, NoView
from pacehall.loops import looped, walk_of
from pacehall.stores import Store
from pacehall.views import View
from tests.helper import NO_NUMBERS, SIXTY, Case, all_orders, all_places, draw_view_in, source


# The places sorted as the loops run: the outermost first, each by its way.
def walked(sizes, order):
    return sorted(all_places(sizes), key=lambda place: [place[axis] * way for axis, way in order])


def wrong_orders(sizes):
    good = [(axis, 1) for axis in range(len(sizes))]
    wrong = [tuple(good), good + [(len(sizes), 1)], good + [(0, 1)], {loop: 1 for loop in good}, [good], iter(good)]
    wrong += [thing for thing in NO_NUMBERS if not (isinstance(thing, list) and thing == good)]
    for axis in range(len(sizes)):
        rest = good[:axis], good[axis + 1:]
        for thing in NO_NUMBERS + [
            [axis, 1], (axis,), (axis, 1, 1), (axis, 0), (axis, 2), (axis, -2), (-1, 1), (len(sizes), 1), (SIXTY, 1),
            (axis, 1.0), (float(axis), 1), (axis, True), (axis, "1"), (axis, None), (None, 1), axis, ((axis, 1),),
        ]:
            wrong.append(rest[0] + [thing] + rest[1])
        wrong.append(rest[0] + rest[1])
        wrong.append(rest[0] + [((axis + 1) % len(sizes), -1)] + rest[1] if len(sizes) > 1 else [])
    return wrong


class WalkOfTest(Case):

    def test_by_hand(self):
        self.assertEqual([(0, 2), (1, 2), (0, 1), (1, 1), (0, 0), (1, 0)], walk_of([2, 3], [(1, -1), (0, 1)]))
        self.assertEqual([(0, 0), (0, 1), (0, 2), (1, 0), (1, 1), (1, 2)], walk_of([2, 3], [(0, 1), (1, 1)]))
        self.assertEqual([(1,), (0,)], walk_of([2], [(0, -1)]))

    def test_no_axes(self):
        self.assertEqual([()], walk_of([], []))
        self.refuse(NoOrder, walk_of, [], [(0, 1)])
        self.refuse(NoOrder, walk_of, [], ())

    def test_all_orders_of_two_and_three_axes(self):
        for sizes in [[4], [2, 3], [1, 3], [2, 3, 4], [3, 1, 2], [2, 2, 2]]:
            for order in all_orders(len(sizes)):
                kept = list(order)
                told = walk_of(sizes, order)
                self.assertEqual(walked(sizes, order), told)
                self.assertEqual({tuple}, {type(place) for place in told})
                self.assertEqual(kept, order)

    def test_eight_axes(self):
        order = [(3, -1), (7, 1), (0, 1), (1, -1), (2, 1), (4, -1), (6, 1), (5, -1)]
        self.assertEqual(walked([2] * 8, order), walk_of([2] * 8, order))

    def test_what_is_no_order(self):
        for sizes in [[], [1], [2], [2, 3], [2, 3, 4]]:
            for thing in wrong_orders(sizes):
                self.refuse(NoOrder, walk_of, sizes, thing)

    def test_truths(self):
        self.refuse(NoOrder, walk_of, [2, 3], [(False, 1), (1, 1)])
        self.refuse(NoOrder, walk_of, [2, 3], [(0, 1), (True, 1)])
        self.refuse(NoOrder, walk_of, [2, 3], [(0, 1), (1, True)])

    def test_counts(self):
        self.assertEqual(4096, len(walk_of([64, 64], [(1, 1), (0, -1)])))
        self.too_many(4160, walk_of, [64, 65], [(1, 1), (0, -1)])
        self.too_many(10 ** 72, walk_of, [10 ** 9] * 8, [(axis, 1) for axis in range(8)])
        self.refuse(NoOrder, walk_of, [64, 65], [(1, 1), (1, -1)])

    def test_the_list_is_the_askers_own(self):
        walk_of([2], [(0, 1)]).clear()
        self.assertEqual([(0,), (1,)], walk_of([2], [(0, 1)]))


class LoopedTest(Case):

    def test_where_it_leaves_what_copied_leaves_and_where_not(self):
        to, origin = View(5, 1, [(4, 1)]), View(5, 0, [(4, 1)])
        store = Store([1, 2, 3, 4, 5])
        self.assertIsNone(looped(store, to, origin, [(0, -1)]))
        self.assertEqual([1, 1, 2, 3, 4], store.all_values())
        store = Store([1, 2, 3, 4, 5])
        looped(store, to, origin, [(0, 1)])
        self.assertEqual([1, 1, 1, 1, 1], store.all_values())

    def test_drawn(self):
        rng = source(26)
        for turn in range(300):
            sizes = [rng.randint(1, 3) for axis in range(rng.randint(0, 3))]
            to, origin = draw_view_in(rng, 30, sizes, range(-5, 6)), draw_view_in(rng, 30, sizes, range(-5, 6))
            order = rng.choice(all_orders(len(sizes)))
            values = [rng.randint(-99, 99) for cell in range(30)]
            store = Store(values)
            kept = list(order)
            looped(store, to, origin, order)
            for place in walked(sizes, order):
                values[to.cell(place)] = values[origin.cell(place)]
            self.assertEqual(values, store.all_values())
            self.assertEqual(kept, order)

    def test_refused_in_order(self):
        store = Store([1, 2, 3, 4, 5])
        good = View(5, 0, [(2, 1)])
        long = View(5, 0, [(4097, 0)])
        for bad in [View(6, 0, [(2, 1)]), View(6, 0, [(3, 1)]), View(6, 0, [(4097, 0)])]:
            for order in [[(0, 1)], [], None]:
                self.refuse(NoView, looped, store, bad, good, order)
                self.refuse(NoView, looped, store, good, bad, order)
                self.refuse(NoView, looped, store, bad, bad, order)
                self.refuse(NoView, looped, store, bad, View(7, 0, []), order)
        for other in [View(5, 0, []), View(5, 0, [(3, 1)]), View(5, 0, [(1, 0), (2, 1)]), long]:
            for order in [[(0, 1)], [], None]:
                self.refuse(NoCount, looped, store, good, other, order)
                self.refuse(NoCount, looped, store, other, good, order)
        self.refuse(NoCount, looped, store, View(5, 0, [(2, 1), (1, 0)]), View(5, 0, [(1, 0), (2, 1)]), [(0, 1), (1, 1)])
        for thing in wrong_orders([2]):
            self.refuse(NoOrder, looped, store, good, good, thing)
        self.refuse(NoOrder, looped, store, long, long, [(0, 0)])
        self.too_many(4097, looped, store, long, long, [(0, 1)])
        self.assertEqual([1, 2, 3, 4, 5], store.all_values())

    def test_a_first_view_with_a_cell_twice_is_not_refused(self):
        store = Store([1, 2, 3, 4, 5])
        looped(store, View(5, 4, [(3, 0)]), View(5, 0, [(3, 1)]), [(0, -1)])
        self.assertEqual([1, 2, 3, 4, 1], store.all_values())

    def test_arguments(self):
        self.signed((walk_of, "(sizes, order)"), (looped, "(store, to, source, order)"))


if __name__ == "__main__":
    unittest.main()
