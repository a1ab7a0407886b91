import unittest

from pacehall.errors import NoCount, NoOrder, NoPair, Twice
from pacehall.floors import whole
from pacehall.loops import looped, walk_of
from pacehall.moves import Slice, Turn
from pacehall.orders import bars, keeps, loop_order
from pacehall.pairs import bound_pairs
from pacehall.stores import Store
from pacehall.views import View
from tests.helper import NO_NUMBERS, Case, Prickly, all_orders, draw_pair, source
from tests.test_loops import wrong_orders


# The document's words: whichever axis, all gaps are 0 or they go both ways.
def bars_by_hand(sizes, some):
    for axis in range(len(sizes)):
        gaps = {i[axis] - j[axis] for i, j in some}
        if gaps != {0} and not (min(gaps) < 0 < max(gaps)):
            return False
    return True


# By running it: values that are all unlike tell each cell's own from all others.
def keeps_by_running(to, origin, order):
    one, other = Store(list(range(to.room))), Store(list(range(to.room)))
    one.copied(to, origin)
    looped(other, to, origin, order)
    return one.all_values() == other.all_values()


class LoopOrderTest(Case):

    def check(self, to, origin):
        told = loop_order(to, origin)
        self.assertIs(tuple, type(told))
        self.assertEqual(2, len(told))
        self.assertIs(list, type(told[1]))
        sizes = to.sizes()
        if told[0] == "loops":
            self.assertEqual(to.count(), len(walk_of(sizes, told[1])))
            self.assertTrue(keeps_by_running(to, origin, told[1]))
            self.assertIs(True, keeps(to, origin, told[1]))
        else:
            self.assertEqual("none", told[0])
            self.assertTrue(1 <= len(told[1]) <= 2 * len(sizes))
            self.assertTrue(set(told[1]) <= set(bound_pairs(to, origin)))
            self.assertTrue(bars_by_hand(sizes, told[1]))
            self.assertIs(True, bars(to, origin, told[1]))
        return told

    def test_by_hand(self):
        to, origin = View(5, 1, [(4, 1)]), View(5, 0, [(4, 1)])
        self.assertEqual(("loops", [(0, -1)]), self.check(to, origin))
        self.assertEqual(("loops", [(0, 1)]), self.check(origin, to))
        self.assertEqual(("loops", []), self.check(View(9, 3, []), View(9, 5, [])))
        self.assertEqual("none", self.check(whole([3]), Slice(0, None, None, -1).on(whole([3])))[0])

    def test_moved_by_one_place_in_each_direction(self):
        for sizes in [[4], [3, 4], [2, 3, 4]]:
            grid = whole([size + 2 for size in sizes])
            inner = View(grid.room, sum(grid.paces()), list(zip(sizes, grid.paces())))
            for axis in range(len(sizes)):
                for way in [1, -1]:
                    moved = View(grid.room, inner.first + way * grid.paces()[axis], inner.axes)
                    told = self.check(inner, moved)
                    self.assertEqual("loops", told[0])
                    self.assertIn((axis, way), told[1])

    def test_moved_aslant(self):
        grid = whole([6, 6])
        inner = View(36, 7, [(4, 6), (4, 1)])
        for shift in [5, 7, -5, -7]:
            self.assertEqual("loops", self.check(inner, View(36, 7 + shift, inner.axes))[0])
        self.assertEqual(36, grid.room)

    def test_turned_about(self):
        for sizes in [[2, 2], [3, 3], [2, 3, 3]]:
            view = whole(sizes)
            for axis in range(len(sizes)):
                self.assertEqual("none", self.check(view, Slice(axis, None, None, -1).on(view))[0])
        view = whole([3, 3])
        self.assertEqual("none", self.check(view, Turn([1, 0]).on(view))[0])

    # Along one axis all is in order by some way, and yet what lies level there is not.
    def test_an_axis_that_helps_and_one_that_bars(self):
        one = View(40, 0, [(2, 20), (3, 1)])
        other = View(40, 22, [(2, -20), (3, -1)])
        self.assertEqual("none", self.check(one, other)[0])

    def test_drawn(self):
        rng = source(28)
        seen = {"loops": 0, "none": 0}
        for turn in range(700):
            to, origin = draw_pair(rng)
            told = self.check(to, origin)
            running = [order for order in all_orders(len(to.axes)) if keeps_by_running(to, origin, order)]
            self.assertEqual(bool(running), told[0] == "loops")
            seen[told[0]] += 1
        self.assertGreater(min(seen.values()), 60)

    def test_great_ones(self):
        axes = [(63, 64), (64, 1)]
        to, origin = View(4096, 1, axes), View(4096, 64, axes)
        self.assertEqual("loops", self.check(to, origin)[0])
        self.assertEqual("loops", self.check(origin, to)[0])
        axes = [(2, 1 << k) for k in range(8)]
        self.assertEqual("none", self.check(View(256, 0, axes), View(256, 255, [(2, -(1 << k)) for k in range(8)]))[0])
        self.assertEqual("loops", self.check(View(400, 0, axes), View(400, 128, axes))[0])

    def test_the_lists_are_the_askers_own(self):
        to, origin = View(5, 1, [(4, 1)]), View(5, 0, [(4, 1)])
        loop_order(to, origin)[1].clear()
        self.assertEqual(("loops", [(0, -1)]), loop_order(to, origin))
        view = whole([3])
        back = Slice(0, None, None, -1).on(view)
        told = loop_order(view, back)
        kept = list(told[1])
        told[1].clear()
        self.assertEqual(("none", kept), loop_order(view, back))


class KeepsTest(Case):

    def test_every_order_of_small_views(self):
        rng = source(29)
        seen = {True: 0, False: 0}
        for turn in range(250):
            to, origin = draw_pair(rng)
            for order in all_orders(len(to.axes)):
                wanted = keeps_by_running(to, origin, order)
                kept = list(order)
                self.assertIs(wanted, keeps(to, origin, order))
                self.assertEqual(kept, order)
                seen[wanted] += 1
        self.assertGreater(min(seen.values()), 300)


class BarsTest(Case):

    def setUp(self):
        self.to = whole([2, 3], 9)
        self.origin = Slice(1, None, None, -1).on(self.to)
        self.pairs = bound_pairs(self.to, self.origin)

    def says(self, wanted, some):
        self.assertIs(wanted, bars(self.to, self.origin, some))

    def test_lists_that_do_and_lists_that_do_not(self):
        self.assertEqual(4, len(self.pairs))
        self.says(True, self.pairs)
        self.says(True, self.pairs[:2])
        self.says(True, [self.pairs[0], self.pairs[3]])
        for pair in self.pairs:
            self.says(False, [pair])
        self.says(False, [self.pairs[0], self.pairs[2]])
        self.says(False, [])

    def test_a_pair_more_than_once(self):
        self.says(True, self.pairs[:2] * 9)
        self.says(True, self.pairs[:2] + self.pairs[:1])
        self.says(False, self.pairs[:1] * 2)

    def test_pairs_that_are_none(self):
        for pair in [
            ((0, 0), (0, 0)), ((0, 0), (1, 2)), ((0, 1), (0, 1)), ((0, 2), (1, 0)), ((2, 0), (2, 2)), ((0, 3), (0, 0)),
        ]:
            self.says(False, self.pairs + [pair])
            self.says(False, [pair] + self.pairs)

    def test_things_of_other_kinds(self):
        for thing in NO_NUMBERS + [tuple(self.pairs), {pair: 1 for pair in self.pairs}, iter(self.pairs), "none", 5]:
            self.says(False, thing)
        pair = self.pairs[0]
        wrong = NO_NUMBERS + [
            list(pair), (list(pair[0]), pair[1]), (pair[0], list(pair[1])), pair + (0,), pair[:1], (pair,), [pair],
            pair[0] + pair[1], (None, pair[1]), (pair[0], None), (Prickly(), pair[1]), (pair[0], (Prickly(), 0)), 5,
        ]
        for thing in wrong:
            self.says(False, self.pairs + [thing])
            self.says(False, [thing] + self.pairs)

    # Each of these equals a bound pair as far as Python goes.
    def test_truths_for_numbers(self):
        for i, j in self.pairs:
            self.says(False, self.pairs + [((bool(i[0]), i[1]), j)])
            self.says(False, self.pairs + [(i, (bool(j[0]), j[1]))])
            self.says(False, self.pairs + [(i, (float(j[0]), j[1]))])

    def test_drawn(self):
        rng = source(30)
        seen = {True: 0, False: 0}
        for turn in range(400):
            to, origin = draw_pair(rng)
            pairs = bound_pairs(to, origin)
            for size in range(1, 6):
                if pairs:
                    some = [rng.choice(pairs) for k in range(size)]
                    wanted = bars_by_hand(to.sizes(), some)
                    kept = list(some)
                    self.assertIs(wanted, bars(to, origin, some))
                    self.assertEqual(kept, some)
                    seen[wanted] += 1
        self.assertGreater(min(seen.values()), 60)

    def test_no_axes(self):
        one = View(9, 3, [])
        for some in [[], [((), ())], [()], None]:
            self.assertIs(False, bars(one, View(9, 5, []), some))


class RefusedTest(Case):

    def test_in_order(self):
        good = View(5, 0, [(2, 1)])
        twice = View(5, 0, [(2, 0)])
        long = View(5, 0, [(4097, 0)])
        asks = [
            loop_order, lambda to, origin: keeps(to, origin, [(0, 1)]), lambda to, origin: bars(to, origin, []),
            lambda to, origin: bars(to, origin, None),
        ]
        for ask in asks:
            self.refuse(NoPair, ask, good, View(6, 0, [(2, 1)]))
            self.refuse(NoPair, ask, long, View(6, 0, []))
            self.refuse(NoPair, ask, twice, View(6, 0, [(2, 1)]))
            self.refuse(NoCount, ask, good, View(5, 0, [(3, 1)]))
            self.refuse(NoCount, ask, good, View(5, 0, [(2, 1), (1, 0)]))
            self.refuse(NoCount, ask, twice, long)
            self.too_many(4097, ask, long, long)
            told = self.refuse(Twice, ask, twice, good)
            self.assertEqual({(0,), (1,)}, {told.one, told.other})

    def test_no_order(self):
        good = View(5, 0, [(2, 1)])
        twice = View(5, 0, [(2, 0)])
        long = View(5, 0, [(4097, 0)])
        for thing in wrong_orders([2]):
            self.refuse(NoOrder, keeps, good, good, thing)
            self.refuse(NoOrder, keeps, twice, good, thing)
            self.refuse(NoOrder, keeps, long, long, thing)
            self.refuse(NoCount, keeps, good, long, thing)
            self.refuse(NoPair, keeps, good, View(6, 0, []), thing)

    def test_arguments(self):
        self.signed((loop_order, "(to, source)"), (keeps, "(to, source, order)"), (bars, "(to, source, some)"))


if __name__ == "__main__":
    unittest.main()
