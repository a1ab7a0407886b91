import inspect
import itertools
import unittest

from pacehall.moves import Fresh, Move, Pick, Slice, Spread, Turn
from pacehall.views import View
from tests.helper import SIXTY, MoveCase, draw_move, draw_sizes, source

SOME_SIZES = [[], [1], [5], [2, 3], [3, 3], [1, 4], [4, 1, 3], [2, 2, 2, 2], [1] * 8, [2, 1, 1, 1, 1, 1, 1, 2]]


class StayTest(MoveCase):

    def test_all_stays(self):
        for sizes in SOME_SIZES:
            self.fits(Move(), sizes)
        self.assertEqual((1, 2), Move().place_of([2, 3], (1, 2)))
        self.assertEqual(("stay",), Move().told())
        view = View(20, 9, [(2, 5), (3, -2)])
        self.assertEqual((9, [(2, 5), (3, -2)]), (Move().on(view).first, Move().on(view).axes))


class SliceTest(MoveCase):

    def test_a_row_by_hand(self):
        self.assertEqual([2, 2], Slice(1, 4, 0, -2).sizes_of([2, 5]))
        self.assertEqual((1, 2), Slice(1, 4, 0, -2).place_of([2, 5], (1, 1)))
        made = Slice(1, 4, 0, -2).on(View(30, 3, [(2, 10), (5, 2)]))
        self.assertEqual((11, [(2, 10), (2, -4)]), (made.first, made.axes))

    def test_small_ones(self):
        bounds = [None, -7, -5, -3, -1, 0, 1, 4, 5, 6]
        for start, stop, step in itertools.product(bounds, bounds, [None, -6, -2, -1, 0, 1, 3, 6]):
            self.asked(Slice(0, start, stop, step), [5])

    def test_each_axis(self):
        for sizes in SOME_SIZES:
            for axis in range(-2, len(sizes) + 2):
                self.asked(Slice(axis), sizes)
                self.asked(Slice(axis, None, None, -1), sizes)
                self.asked(Slice(axis, 1), sizes)
                self.asked(Slice(axis, 0, 2, 2), sizes)

    def test_what_does_not_fit(self):
        for move in [
            Slice(0, step=0), Slice(0, 5), Slice(0, None, 0), Slice(0, 3, 3), Slice(0, 2, 3, -1), Slice(1), Slice(-1),
            Slice(0, SIXTY), Slice(0, None, -SIXTY), Slice(SIXTY), Slice(-SIXTY),
        ]:
            self.unfit(move, [5])

    def test_what_is_left_out_is_none(self):
        self.assertEqual(("slice", 2, None, None, None), Slice(2).told())
        self.assertEqual(("slice", 2, 3, None, -1), Slice(2, 3, step=-1).told())
        self.assertEqual([10 ** 9], Slice(0).sizes_of([10 ** 9]))
        self.assertEqual([5 * 10 ** 8], Slice(0, step=-2).sizes_of([10 ** 9]))

    def test_one_that_is_left(self):
        self.fits(Slice(0, 3, 4), [5])
        self.fits(Slice(0, -1, None, SIXTY), [5])
        self.assertEqual([(1, 0)], Slice(0, 3, 4).on(View(9, 0, [(5, 2)])).axes)


class PickTest(MoveCase):

    def test_a_row_by_hand(self):
        self.assertEqual([2, 4], Pick(1, -1).sizes_of([2, 3, 4]))
        self.assertEqual((1, 2, 3), Pick(1, -1).place_of([2, 3, 4], (1, 3)))
        made = Pick(0, 1).on(View(30, 3, [(2, 10), (5, 2)]))
        self.assertEqual((13, [(5, 2)]), (made.first, made.axes))
        self.assertEqual(("pick", 0, 1), Pick(0, 1).told())

    def test_each(self):
        for sizes in SOME_SIZES:
            for axis in range(-1, len(sizes) + 1):
                for at in range(-6, 6):
                    self.asked(Pick(axis, at), sizes)

    def test_what_does_not_fit(self):
        for move in [Pick(0, 5), Pick(0, -6), Pick(1, 0), Pick(-1, 0), Pick(0, SIXTY), Pick(0, -SIXTY), Pick(SIXTY, 0)]:
            self.unfit(move, [5])
        self.unfit(Pick(0, 0), [])

    def test_the_last_axis_goes(self):
        self.assertEqual([], Pick(0, 2).sizes_of([5]))
        self.assertEqual((2,), Pick(0, 2).place_of([5], ()))


class TurnTest(MoveCase):

    def test_a_row_by_hand(self):
        self.assertEqual([4, 2, 3], Turn([2, 0, 1]).sizes_of([2, 3, 4]))
        self.assertEqual((1, 2, 3), Turn([2, 0, 1]).place_of([2, 3, 4], (3, 1, 2)))
        self.assertEqual([(4, 1), (2, 12), (3, 4)], Turn([2, 0, 1]).on(View(24, 0, [(2, 12), (3, 4), (4, 1)])).axes)

    def test_all_orders(self):
        for sizes in [[], [4], [2, 3], [2, 3, 4], [2, 1, 3, 2]]:
            for order in itertools.permutations(range(len(sizes))):
                self.fits(Turn(list(order)), sizes)
        self.fits(Turn([7, 6, 5, 4, 3, 2, 1, 0]), [2, 1, 1, 1, 1, 1, 1, 3])

    def test_what_does_not_fit(self):
        for order in [[], [0], [0, 0], [0, 2], [0, -1], [1, 1], [0, 1, 2], [0, 1, 1], [-1, -2], [SIXTY, 0], [1, 2]]:
            self.unfit(Turn(order), [2, 3])
        self.unfit(Turn([0]), [])

    def test_the_order_is_changed_behind_the_call(self):
        order = [1, 0]
        move = Turn(order)
        order.reverse()
        order.append(2)
        self.assertEqual([3, 2], move.sizes_of([2, 3]))
        self.assertEqual(("turn", [1, 0]), move.told())
        move.told()[1].clear()
        self.assertEqual(("turn", [1, 0]), move.told())
        self.fits(move, [2, 3])


class FreshTest(MoveCase):

    def test_a_row_by_hand(self):
        self.assertEqual([2, 1, 3], Fresh(1).sizes_of([2, 3]))
        self.assertEqual((1, 2), Fresh(1).place_of([2, 3], (1, 0, 2)))
        self.assertEqual([(2, 3), (3, 1), (1, 0)], Fresh(2).on(View(6, 0, [(2, 3), (3, 1)])).axes)
        self.assertEqual(("fresh", 1), Fresh(1).told())

    def test_each(self):
        for sizes in SOME_SIZES:
            for axis in range(-2, len(sizes) + 3):
                self.asked(Fresh(axis), sizes)

    def test_what_does_not_fit(self):
        self.unfit(Fresh(-1), [2, 3])
        self.unfit(Fresh(3), [2, 3])
        self.unfit(Fresh(SIXTY), [2, 3])

    def test_a_ninth_axis(self):
        self.fits(Fresh(7), [1] * 7)
        for axis in range(9):
            self.unfit(Fresh(axis), [1] * 8)


class SpreadTest(MoveCase):

    def test_a_row_by_hand(self):
        self.assertEqual([2, 5], Spread(1, 5).sizes_of([2, 1]))
        self.assertEqual((1, 0), Spread(1, 5).place_of([2, 1], (1, 4)))
        self.assertEqual([(2, 3), (5, 0)], Spread(1, 5).on(View(9, 0, [(2, 3), (1, 0)])).axes)
        self.assertEqual(("spread", 1, 5), Spread(1, 5).told())

    def test_each(self):
        for sizes in SOME_SIZES:
            for axis in range(-1, len(sizes) + 1):
                for size in [-1, 0, 1, 2, 3]:
                    self.asked(Spread(axis, size), sizes)

    def test_bounds(self):
        self.assertEqual([10 ** 9], Spread(0, 10 ** 9).sizes_of([1]))
        self.assertEqual((0,), Spread(0, 10 ** 9).place_of([1], (10 ** 9 - 1,)))
        self.assertEqual([(10 ** 9, 0)], Spread(0, 10 ** 9).on(View(1, 0, [(1, 0)])).axes)
        for size in [10 ** 9 + 1, SIXTY, 0, -1, -SIXTY]:
            self.unfit(Spread(0, size), [1])

    def test_an_axis_of_another_size(self):
        self.unfit(Spread(0, 2), [2])
        self.unfit(Spread(0, 4), [2])


class AllTest(MoveCase):

    def test_drawn(self):
        rng = source(4)
        for turn in range(400):
            sizes = draw_sizes(rng)
            self.asked(draw_move(rng, sizes), sizes)

    def test_great_views(self):
        view = View(10 ** 18, 5 * 10 ** 17, [(10 ** 9, 10 ** 8), (10 ** 9, -(10 ** 8)), (10 ** 6, 3)])
        made = Slice(1, None, None, -3).on(view)
        self.assertEqual([10 ** 9, 333333334, 10 ** 6], made.sizes())
        place = (5, 333333333, 77)
        self.assertEqual(view.cell((5, 0, 77)), made.cell(place))
        self.assertEqual((5, 0, 77), Slice(1, None, None, -3).place_of(view.sizes(), place))

    def test_each_stands_under_move(self):
        for move in [Slice(0), Pick(0, 0), Turn([]), Fresh(0), Spread(0, 1)]:
            self.assertIsInstance(move, Move)

    def test_making_refuses_nothing(self):
        for move in [Slice(-5, 0, 0, 0), Pick(-1, SIXTY), Turn([5, 5, -1]), Fresh(-SIXTY), Spread(9, 0)]:
            self.assertIs(tuple, type(move.told()))

    def test_arguments(self):
        for function, arguments in [
            (Move, "()"), (Slice, "(axis, start=None, stop=None, step=None)"), (Pick, "(axis, at)"), (Turn, "(order)"),
            (Fresh, "(axis)"), (Spread, "(axis, size)"), (Move.sizes_of, "(self, sizes)"),
            (Move.place_of, "(self, sizes, place)"), (Move.on, "(self, view)"), (Move.told, "(self)"),
        ]:
            self.assertEqual(arguments, str(inspect.signature(function)))


if __name__ == "__main__":
    unittest.main()
