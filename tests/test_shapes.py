import itertools
import unittest

from pacehall.errors import NoCount, NoShape
from pacehall.floors import whole
from pacehall.places import count_of, number_of
from pacehall.plain import reads_same
from pacehall.shapes import is_fault, shaped
from pacehall.views import View
from tests.helper import NO_NUMBERS, SIXTY, Case, Prickly, all_places, cells_by_sum, draw_view, source

ROOM = 10 ** 18


# All lists of sizes of a count with at most so many axes, size 1 among them.
def shapes_of(count, axes):
    if axes == 0:
        return [[]] if count == 1 else []
    found = shapes_of(count, axes - 1)
    for size in range(1, count + 1):
        if count % size == 0:
            found += [[size] + rest for rest in shapes_of(count // size, axes - 1) if len(rest) == axes - 1]
    return found


# The document's words on cells alone.
def shows_fault(cells, sizes, place, axis):
    if place[axis] == 0:
        return False
    below = place[:axis] + (place[axis] - 1,) + place[axis + 1:]
    step = (0,) * axis + (1,) + (0,) * (len(sizes) - axis - 1)
    at = [number_of(sizes, there) for there in [place, below, step]]
    return cells[at[0]] - cells[at[1]] != cells[at[2]] - cells[0]


class ShapedTest(Case):

    def check(self, view, sizes):
        cells = cells_by_sum(view)
        kept = list(sizes)
        faults = [
            (place, axis) for place in all_places(sizes) for axis in range(len(sizes))
            if shows_fault(cells, sizes, place, axis)
        ]
        if not faults:
            made = shaped(view, sizes)
            self.assertEqual((view.room, sizes, cells), (made.room, made.sizes(), cells_by_sum(made)))
        else:
            told = self.refuse(NoShape, shaped, view, sizes)
            self.assertIn((told.place, told.axis), faults)
            self.assertIs(tuple, type(told.place))
            self.assertIs(True, is_fault(view, sizes, told.place, told.axis))
        self.assertEqual(kept, sizes)
        return not faults

    def test_by_hand(self):
        self.assertEqual([(3, 2), (2, 1)], shaped(whole([6]), [3, 2]).axes)
        self.assertEqual([(6, 1)], shaped(whole([2, 3]), [6]).axes)
        self.assertEqual([(2, 3), (1, 0), (3, 1)], shaped(whole([6]), [2, 1, 3]).axes)
        self.assertEqual([], shaped(View(9, 4, [(1, 0)]), []).axes)
        self.assertEqual([(1, 0)] * 8, shaped(View(9, 4, []), [1] * 8).axes)
        self.assertEqual([(2, 0), (2, 0)], shaped(View(9, 4, [(4, 0)]), [2, 2]).axes)
        self.assertEqual([(2, -6), (3, -2)], shaped(View(20, 15, [(6, -2)]), [2, 3]).axes)

    def test_where_there_is_none(self):
        told = self.refuse(NoShape, shaped, View(20, 0, [(2, 10), (3, 1)]), [6])
        self.assertEqual(((3,), 0), (told.place, told.axis))
        told = self.refuse(NoShape, shaped, View(6, 0, [(3, 1), (2, 3)]), [2, 3])
        self.assertIs(True, is_fault(View(6, 0, [(3, 1), (2, 3)]), [2, 3], told.place, told.axis))

    def test_all_shapes_of_drawn_views(self):
        rng = source(9)
        good = bad = 0
        for turn in range(160):
            sizes = rng.choice([[12], [3, 4], [4, 3], [2, 2, 3], [2, 3, 2], [8], [2, 4], [2, 2, 2], [16], [1, 6], [24]])
            paces = rng.choice([[0, 1, 2, 3, 4, 6], [-2, -1, 0, 1, 2], [0, 1, 12]])
            view = draw_view(rng, sizes, paces)
            for other in shapes_of(view.count(), 3):
                if self.check(view, other):
                    good += 1
                else:
                    bad += 1
        self.assertGreater(good, 300)
        self.assertGreater(bad, 300)

    def test_it_stays_itself(self):
        rng = source(10)
        for turn in range(60):
            view = draw_view(rng)
            self.assertEqual(view.axes, shaped(view, view.sizes()).axes)

    def test_no_list_of_sizes(self):
        view = whole([2, 3])
        things = NO_NUMBERS + [
            (2, 3), (6,), "6", [2.0, 3], [True, 6], [6, True], [0, 6], [-2, -3], ["2", 3], [None], [[6]], [(6,)],
            [6] + [1] * 8, [10 ** 9 + 1], [SIXTY], {2: 3}, range(6), [Prickly()],
        ]
        for thing in things:
            self.refuse(NoCount, shaped, view, thing)
        single = View(9, 4, [])
        for thing in [(), None, [1] * 9, [True], [1, 0], 1, ""]:
            self.refuse(NoCount, shaped, single, thing)
        nil = View(1, 0, [(10 ** 9, 0), (2, 0)])
        self.refuse(NoCount, shaped, nil, [2 * 10 ** 9])

    def test_another_count(self):
        for sizes in [[], [5], [7], [2, 2], [3, 3], [12], [2, 3, 2]]:
            self.refuse(NoCount, shaped, whole([2, 3]), sizes)

    def test_the_sizes_are_changed_behind_the_call(self):
        sizes = [3, 2]
        made = shaped(whole([6]), sizes)
        sizes.clear()
        self.assertEqual([3, 2], made.sizes())

    def test_great_counts(self):
        view = whole([10 ** 9, 10 ** 9])
        for sizes in [[10 ** 6] * 3, [10 ** 9] * 2, [2, 5, 10 ** 8, 10 ** 9], [10 ** 3, 10 ** 6, 1, 10 ** 9]]:
            made = shaped(view, sizes)
            self.assertEqual((sizes, True), (made.sizes(), reads_same(made, view)))
        for other, sizes in [
            (View(ROOM, 0, [(10 ** 9, 10 ** 8), (10 ** 9, 1)]), [10 ** 6] * 3),
            (View(ROOM, 10 ** 17, [(10 ** 9, -7), (10 ** 6, 11)]), [10 ** 8, 10 ** 7]),
            (View(ROOM, 10 ** 17, [(10 ** 6, 11), (10 ** 9, -7)]), [10 ** 8, 10 ** 7]),
            (View(ROOM, 0, [(2, 5), (10 ** 9, 0), (10 ** 8, 3)]), [10 ** 9, 2, 10 ** 8]),
            (View(1, 0, [(10 ** 9, 0)] * 8), None),
            (View(2, 0, [(2, 1)] + [(10 ** 9, 0)] * 7), [10 ** 9] * 7 + [2]),
            (View(2, 1, [(10 ** 9, 0)] * 7 + [(2, -1)]), [2] + [10 ** 9] * 7),
        ]:
            if sizes is None:
                self.assertEqual([(10 ** 9, 0)] * 8, shaped(other, [10 ** 9] * 8).axes)
                continue
            told = self.refuse(NoShape, shaped, other, sizes)
            self.assertIs(True, is_fault(other, sizes, told.place, told.axis))
            at = number_of(sizes, told.place)
            pace = count_of(sizes[told.axis + 1:])
            self.assertGreater(told.place[told.axis], 0)
            self.assertNotEqual(other.cell_at(at) - other.cell_at(at - pace), other.cell_at(pace) - other.first)


class IsFaultTest(Case):

    def test_each_place_and_axis(self):
        rng = source(11)
        seen = {True: 0, False: 0}
        for turn in range(120):
            view = draw_view(rng, rng.choice([[6], [2, 3], [3, 2], [2, 2, 3], [12], [4, 3]]), [0, 1, 2, 3, 4])
            cells = cells_by_sum(view)
            for sizes in shapes_of(view.count(), 3):
                for place, axis in itertools.product(all_places(sizes), range(len(sizes))):
                    wanted = shows_fault(cells, sizes, place, axis)
                    self.assertIs(wanted, is_fault(view, sizes, place, axis))
                    seen[wanted] += 1
        self.assertGreater(min(seen.values()), 500)

    def test_whatever_is_handed_in(self):
        view = View(20, 0, [(2, 10), (3, 1)])
        self.assertIs(True, is_fault(view, [6], (3,), 0))
        self.assertIs(True, is_fault(view, [3, 2], (1, 1), 0))
        for thing in NO_NUMBERS + [-1, 1, 2, SIXTY, -SIXTY, (0,)]:
            self.assertIs(False, is_fault(view, [6], (3,), thing))
        for thing in NO_NUMBERS + [3, [3], (6,), (-3,), (3, 0), (True,), ((3,),), "3", (None,), (3.0,), (Prickly(),)]:
            self.assertIs(False, is_fault(view, [6], thing, 0))
        self.assertIs(False, is_fault(view, [3, 2], (True, 1), 0))
        self.assertIs(False, is_fault(view, [3, 2], (1, True), 0))
        self.assertIs(False, is_fault(view, [3, 2], (1, 1), -2))
        self.assertIs(False, is_fault(view, [3, 2], (1, 1), False))
        self.assertIs(False, is_fault(View(9, 4, []), [], (), 0))

    def test_great_counts(self):
        view = View(ROOM, 0, [(10 ** 9, 10 ** 8), (10 ** 9, 1)])
        sizes = [10 ** 6] * 3
        self.assertIs(True, is_fault(view, sizes, (0, 10 ** 3, 0), 1))
        self.assertIs(False, is_fault(view, sizes, (0, 10 ** 3 - 1, 0), 1))
        self.assertIs(False, is_fault(view, sizes, (0, 10 ** 3, 0), 0))

    def test_arguments(self):
        self.signed((shaped, "(view, sizes)"), (is_fault, "(view, sizes, place, axis)"))


if __name__ == "__main__":
    unittest.main()
