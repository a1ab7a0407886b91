import inspect
import unittest

from pacehall.errors import NoView, TooMany
from pacehall.floors import has_twice, same_view, whole
from pacehall.places import count_of
from pacehall.views import View
from tests.helper import NO_NUMBERS, SIXTY, all_places, cells_by_sum, draw_sizes, draw_view, source

ROOM = 10 ** 18


class WholeTest(unittest.TestCase):

    def refuse(self, *asked):
        with self.assertRaises(NoView) as taken:
            whole(*asked)
        self.assertIs(NoView, type(taken.exception))

    def test_no_sizes(self):
        view = whole([])
        self.assertEqual((1, 0, []), (view.room, view.first, view.axes))

    def test_some_sizes(self):
        view = whole([2, 3])
        self.assertEqual((6, 0, [(2, 3), (3, 1)]), (view.room, view.first, view.axes))
        self.assertEqual([(3, 4), (1, 0), (4, 1)], whole([3, 1, 4]).axes)
        rng = source(2)
        for turn in range(60):
            sizes = draw_sizes(rng, 5)
            self.assertEqual(list(range(count_of(sizes))), whole(sizes).cells())
            self.assertEqual(sizes, whole(sizes).sizes())

    def test_rooms(self):
        self.assertEqual(6, whole([2, 3], None).room)
        self.assertEqual(6, whole([2, 3], 6).room)
        self.assertEqual(7, whole([2, 3], room=7).room)
        self.assertEqual(ROOM, whole([2, 3], ROOM).room)
        self.assertEqual([0, 1, 2, 3, 4, 5], whole([2, 3], 99).cells())
        self.assertEqual(3, whole([], 3).room)

    def test_rooms_refused(self):
        for room in [5, 1, 0, -1, -6, -SIXTY, ROOM + 1, SIXTY]:
            self.refuse([2, 3], room)
        self.refuse([], 0)
        for thing in NO_NUMBERS:
            if thing is not None:
                self.refuse([2, 3], thing)
                self.refuse([], thing)

    def test_great_counts(self):
        self.assertEqual(ROOM, whole([10 ** 9, 10 ** 9]).room)
        self.assertEqual(ROOM - 1, whole([10 ** 9, 10 ** 9]).greatest())
        self.refuse([10 ** 9] * 8)
        self.refuse([10 ** 9] * 8, ROOM)
        self.refuse([10 ** 9, 10 ** 9, 2])
        self.refuse([10 ** 9, 10 ** 9, 2], ROOM)
        self.refuse([10 ** 9, 10 ** 9], ROOM - 1)

    def test_the_sizes_handed_in_are_changed_behind_the_call(self):
        sizes = [2, 3]
        view = whole(sizes)
        self.assertEqual([2, 3], sizes)
        sizes[0] = 9
        sizes.clear()
        self.assertEqual([2, 3], view.sizes())


class SameViewTest(unittest.TestCase):

    def test_same(self):
        self.assertIs(True, same_view(View(20, 3, [(2, 5), (3, -1)]), View(20, 3, [(2, 5), (3, -1)])))
        self.assertIs(True, same_view(whole([2, 3]), View(6, 0, [(2, 3), (3, 1)])))
        self.assertIs(True, same_view(View(5, 0, [(1, 7)]), View(5, 0, [(1, -9)])))
        view = View(9, 1, [])
        self.assertIs(True, same_view(view, view))

    def test_one_thing_otherwise(self):
        view = View(20, 3, [(2, 5), (3, -1)])
        for other in [
            View(21, 3, [(2, 5), (3, -1)]), View(20, 4, [(2, 5), (3, -1)]), View(20, 3, [(3, 5), (3, -1)]),
            View(20, 3, [(2, 4), (3, -1)]), View(20, 3, [(3, -1), (2, 5)]), View(20, 3, [(2, 5)]),
            View(20, 3, [(2, 5), (3, -1), (1, 0)]), View(20, 3, [(2, 5), (3, 1)]),
        ]:
            self.assertIs(False, same_view(view, other))
            self.assertIs(False, same_view(other, view))

    def test_like_cells_do_not_make_it_the_same(self):
        self.assertIs(False, same_view(whole([6]), whole([2, 3])))


class HasTwiceTest(unittest.TestCase):

    def check(self, view):
        told = has_twice(view)
        cells = cells_by_sum(view)
        if len(set(cells)) == len(cells):
            self.assertIsNone(told)
            return
        self.assertIs(tuple, type(told))
        self.assertEqual(2, len(told))
        self.assertNotEqual(told[0], told[1])
        places = all_places(view.sizes())
        self.assertIn(told[0], places)
        self.assertIn(told[1], places)
        self.assertEqual(view.cell(told[0]), view.cell(told[1]))

    def test_plain_ones(self):
        self.assertIsNone(has_twice(whole([2, 3])))
        self.assertIsNone(has_twice(View(1, 0, [])))
        self.assertEqual({(0,), (1,)}, set(has_twice(View(1, 0, [(2, 0)]))))
        self.assertEqual({(0, 1), (1, 0)}, set(has_twice(View(4, 0, [(2, 1), (2, 1)]))))

    def test_the_last_place_alone_is_a_second_one(self):
        self.assertEqual({(0, 2), (1, 0)}, set(has_twice(View(9, 0, [(2, 4), (3, 2)]))))

    def test_drawn(self):
        rng = source(3)
        for turn in range(300):
            self.check(draw_view(rng))

    def test_counts(self):
        self.check(View(4096, 4095, [(4096, -1)]))
        self.check(View(2, 0, [(4096, 0)]))
        for axes in [[(4097, 0)], [(4097, 1)], [(10 ** 9, 0)] * 8]:
            view = View(ROOM, 0, axes)
            with self.assertRaises(TooMany) as taken:
                has_twice(view)
            self.assertEqual(view.count(), taken.exception.number)


class InterfaceTest(unittest.TestCase):

    def test_arguments(self):
        for function, arguments in [
            (whole, "(sizes, room=None)"), (same_view, "(one, other)"), (has_twice, "(view)"),
        ]:
            self.assertEqual(arguments, str(inspect.signature(function)))


if __name__ == "__main__":
    unittest.main()
