import inspect
import itertools
import unittest

from pacehall.errors import NoPlace, NoView, TooMany
from pacehall.places import place_at
from pacehall.views import View
from tests.helper import NO_NUMBERS, SIXTY, Prickly, all_places, cells_by_sum, draw_view, source

ROOM = 10 ** 18


class MadeTest(unittest.TestCase):

    def refuse(self, room, first, axes):
        with self.assertRaises(NoView) as taken:
            View(room, first, axes)
        self.assertIs(NoView, type(taken.exception))

    def test_fields(self):
        view = View(20, 3, [(2, 5), (3, -1)])
        self.assertEqual((20, 3, [(2, 5), (3, -1)]), (view.room, view.first, view.axes))
        self.assertIs(list, type(view.axes))
        self.assertEqual([tuple, tuple], [type(axis) for axis in view.axes])

    def test_made_by_the_names_of_its_arguments(self):
        view = View(room=9, first=1, axes=[(2, 3)])
        self.assertEqual([1, 4], view.cells())

    def test_no_axes(self):
        view = View(1, 0, [])
        self.assertEqual(([], [], 1, [0]), (view.sizes(), view.paces(), view.count(), view.cells()))
        self.assertEqual(0, view.cell(()))

    def test_eight_axes(self):
        axes = [(2, 1 << k) for k in range(7, -1, -1)]
        view = View(256, 0, axes)
        self.assertEqual(list(range(256)), view.cells())
        self.refuse(ROOM, 0, axes + [(1, 0)])
        self.refuse(ROOM, 0, axes + [(2, 256)])

    def test_rooms(self):
        self.assertEqual(1, View(1, 0, []).room)
        self.assertEqual([ROOM - 1], View(ROOM, ROOM - 1, []).cells())
        for room in [0, -1, ROOM + 1, SIXTY, -SIXTY]:
            self.refuse(room, 0, [])

    def test_the_least_cell_just_nought_and_just_below(self):
        self.assertEqual(0, View(20, 7, [(3, -2), (4, -1), (2, 5)]).least())
        self.refuse(20, 6, [(3, -2), (4, -1), (2, 5)])
        self.assertEqual(0, View(1, 0, []).least())
        self.refuse(1, -1, [])
        self.refuse(ROOM, -SIXTY, [])

    def test_the_greatest_cell_just_within_and_just_beyond(self):
        self.assertEqual(12, View(13, 7, [(3, -2), (4, -1), (2, 5)]).greatest())
        self.refuse(12, 7, [(3, -2), (4, -1), (2, 5)])
        self.refuse(1, 1, [])
        self.refuse(ROOM, SIXTY, [])
        self.refuse(ROOM, 0, [(2, ROOM)])
        self.assertEqual(ROOM - 1, View(ROOM, 0, [(2, ROOM - 1)]).greatest())
        self.refuse(ROOM, 0, [(2, SIXTY)])
        self.refuse(ROOM, ROOM - 1, [(2, -SIXTY)])

    def test_paces_of_every_sort(self):
        self.assertEqual([5, 5, 5], View(6, 5, [(3, 0)]).cells())
        self.assertEqual([5, 3, 1], View(6, 5, [(3, -2)]).cells())
        self.assertEqual([0, 2, 4], View(6, 0, [(3, 2)]).cells())
        self.assertEqual([1, 2, 1, 2], View(3, 1, [(2, 0), (2, 1)]).cells())

    def test_an_axis_of_size_one_is_kept_with_the_pace_nought(self):
        for pace in [0, 1, -1, 7, -SIXTY, SIXTY]:
            view = View(1, 0, [(1, pace)])
            self.assertEqual([(1, 0)], view.axes)
            self.assertEqual([0], view.paces())
            self.assertEqual([0], view.cells())
        self.assertEqual([(2, 3), (1, 0), (2, -1)], View(9, 4, [(2, 3), (1, 99), (2, -1)]).axes)

    def test_great_sizes(self):
        view = View(10 ** 9, 0, [(10 ** 9, 1)])
        self.assertEqual(10 ** 9, view.count())
        view = View(1, 0, [(10 ** 9, 0)] * 8)
        self.assertEqual(10 ** 72, view.count())
        self.refuse(ROOM, 0, [(10 ** 9 + 1, 1)])
        self.refuse(ROOM, 0, [(10 ** 9 + 1, 0)])

    def test_whatever_else_as_room(self):
        for thing in NO_NUMBERS:
            self.refuse(thing, 0, [])

    def test_whatever_else_as_first(self):
        for thing in NO_NUMBERS:
            self.refuse(5, thing, [])

    def test_whatever_else_as_axes(self):
        for thing in NO_NUMBERS:
            if not isinstance(thing, list) or thing:
                self.refuse(5, 0, thing)
        for thing in [((2, 1),), "", {}, {(2, 1): 0}, {(2, 1)}, iter([(2, 1)]), range(0), (2, 1)]:
            self.refuse(5, 0, thing)

    def test_whatever_else_as_one_axis(self):
        things = NO_NUMBERS + [
            [2, 1], (2,), (2, 1, 0), (), ((2, 1),), "21", {2: 1}, (2, 1, None), [(2, 1)], 2, (0, 1), (-1, 1), (-2, -1),
        ]
        for thing in things:
            self.refuse(5, 0, [thing])
            self.refuse(5, 0, [(2, 1), thing])
            self.refuse(5, 0, [thing, (2, 1)])

    def test_whatever_else_as_size_or_pace(self):
        for thing in NO_NUMBERS:
            self.refuse(5, 0, [(thing, 1)])
            self.refuse(5, 0, [(2, thing)])
            self.refuse(5, 0, [(1, thing)])

    def test_a_list_within_itself(self):
        axes = []
        axes.append(axes)
        self.refuse(5, 0, axes)

    def test_the_list_handed_in_is_changed_behind_the_call(self):
        axes = [(2, 1), (2, 2)]
        view = View(4, 0, axes)
        axes[0] = (4, 0)
        axes.append((9, 9))
        self.assertEqual([0, 2, 1, 3], view.cells())
        self.assertEqual([(2, 1), (2, 2)], view.axes)

    def test_the_list_handed_in_stays(self):
        axes = [(1, 5), (2, 1)]
        View(4, 0, axes)
        self.assertEqual([(1, 5), (2, 1)], axes)


class AskedTest(unittest.TestCase):

    def test_sizes_paces_count(self):
        view = View(100, 50, [(2, 10), (1, 4), (3, -7)])
        self.assertEqual([2, 1, 3], view.sizes())
        self.assertEqual([10, 0, -7], view.paces())
        self.assertEqual(6, view.count())

    def test_the_cell_of_each_place(self):
        rng = source(1)
        for turn in range(150):
            view = draw_view(rng)
            wanted = cells_by_sum(view)
            places = all_places(view.sizes())
            self.assertEqual(wanted, [view.cell(place) for place in places])
            self.assertEqual(wanted, [view.cell_at(number) for number in range(view.count())])
            self.assertEqual(wanted, view.cells())
            self.assertEqual((min(wanted), max(wanted)), (view.least(), view.greatest()))

    def test_what_is_no_place(self):
        view = View(100, 50, [(2, 10), (3, -7)])
        for thing in NO_NUMBERS + [
            (), (0,), (0, 0, 0), [0, 0], (2, 0), (0, 3), (-1, 0), (0, -1), (True, 0), (0, False), (0, None), ("0", 0),
            (0, 1.0), (Prickly(), 0), ((0, 0),), "00", {0: 0, 1: 0}, (SIXTY, 0), (0, -SIXTY),
        ]:
            with self.assertRaises(NoPlace) as taken:
                view.cell(thing)
            self.assertIs(NoPlace, type(taken.exception))
        for thing in [(0,), [], None, 0, "", ((),)]:
            with self.assertRaises(NoPlace):
                View(1, 0, []).cell(thing)

    def test_what_is_no_number(self):
        view = View(100, 50, [(2, 10), (3, -7)])
        for thing in NO_NUMBERS + [-1, 6, 7, 10 ** 79, -(10 ** 79), (0, 0)]:
            with self.assertRaises(NoPlace) as taken:
                view.cell_at(thing)
            self.assertIs(NoPlace, type(taken.exception))
        with self.assertRaises(NoPlace):
            View(1, 0, []).cell_at(1)
        self.assertEqual(0, View(1, 0, []).cell_at(0))

    def test_cells_at_the_edge_of_their_count(self):
        for sizes in [[4096], [64, 64], [8, 1, 512]]:
            view = View(1, 0, [(size, 0) for size in sizes])
            self.assertEqual([0] * 4096, view.cells())
        for sizes in [[4097], [17, 241], [64, 65], [10 ** 9] * 8]:
            view = View(1, 0, [(size, 0) for size in sizes])
            with self.assertRaises(TooMany) as taken:
                view.cells()
            self.assertEqual(view.count(), taken.exception.number)

    def test_great_counts(self):
        axes = [(10 ** 9, 10 ** 8), (10 ** 9, -(10 ** 8)), (10 ** 6, 7), (10 ** 3, -11)]
        view = View(ROOM, 4 * 10 ** 17, axes)
        self.assertEqual(4 * 10 ** 17 - (10 ** 9 - 1) * 10 ** 8 - 999 * 11, view.least())
        self.assertEqual(4 * 10 ** 17 + (10 ** 9 - 1) * 10 ** 8 + (10 ** 6 - 1) * 7, view.greatest())
        self.assertEqual(10 ** 27, view.count())
        place = (5, 10 ** 9 - 1, 123456, 998)
        wanted = 4 * 10 ** 17 + sum(number * pace for number, (size, pace) in zip(place, axes))
        self.assertEqual(wanted, view.cell(place))
        number = ((5 * 10 ** 9 + 10 ** 9 - 1) * 10 ** 6 + 123456) * 10 ** 3 + 998
        self.assertEqual(place, place_at(view.sizes(), number))
        self.assertEqual(wanted, view.cell_at(number))

    def test_lists_told_are_the_askers_own(self):
        view = View(100, 50, [(2, 10), (3, -7)])
        for ask in [view.sizes, view.paces, view.cells]:
            told = ask()
            wanted = list(told)
            told[0] = 99
            told.append(5)
            self.assertEqual(wanted, ask())
        self.assertEqual([(2, 10), (3, -7)], view.axes)
        self.assertEqual([50, 43, 36, 60, 53, 46], view.cells())

    def test_asked_again(self):
        view = View(100, 50, [(2, 10), (3, -7)])
        for ask in [view.sizes, view.paces, view.cells, view.count, view.least, view.greatest]:
            self.assertEqual(ask(), ask())

    def test_small_views_are_made_just_where_their_cells_lie_in_the_floor(self):
        for room, first, size, pace in itertools.product(range(1, 5), range(-1, 5), range(1, 4), range(-3, 4)):
            cells = [first + number * pace for number in range(size)]
            if min(cells) >= 0 and max(cells) < room:
                self.assertEqual(cells, View(room, first, [(size, pace)]).cells())
            else:
                with self.assertRaises(NoView):
                    View(room, first, [(size, pace)])


class InterfaceTest(unittest.TestCase):

    def test_arguments(self):
        for function, arguments in [
            (View, "(room, first, axes)"), (View.cell, "(self, place)"), (View.cell_at, "(self, number)"),
            (View.sizes, "(self)"), (View.paces, "(self)"), (View.cells, "(self)"), (View.count, "(self)"),
            (View.least, "(self)"), (View.greatest, "(self)"),
        ]:
            self.assertEqual(arguments, str(inspect.signature(function)))


if __name__ == "__main__":
    unittest.main()
