import unittest

from pacehall.errors import NoCells, NoCount, NoView
from pacehall.floors import whole
from pacehall.moves import Slice
from pacehall.stores import Store
from pacehall.views import View
from tests.helper import SIXTY, Case, cells_by_sum, draw_view_in, source

# Of a room of 5 and a count of 4097.
LONG = View(5, 2, [(4097, 0)])


class MadeTest(Case):

    def test_how_many(self):
        self.assertEqual([7], Store([7]).all_values())
        self.assertEqual(list(range(4096)), Store(list(range(4096))).all_values())
        self.refuse(NoCells, Store, [])
        self.too_many(4097, Store, [0] * 4097)
        self.too_many(9999, Store, [0] * 9999)

    def test_values_of_any_sort(self):
        values = [0, -1, SIXTY, -SIXTY, 5]
        self.assertEqual(values, Store(values).all_values())

    def test_lists_are_changed_behind_the_call(self):
        values = [1, 2, 3]
        store = Store(values)
        values[0] = 9
        values.append(4)
        self.assertEqual([1, 2, 3], store.all_values())
        store.all_values().clear()
        store.all_values()[0] = 9
        self.assertEqual([1, 2, 3], store.all_values())
        store.fill(View(3, 0, []), 7)
        self.assertEqual([9, 2, 3, 4], values)


class WrittenTest(Case):

    def setUp(self):
        self.store = Store([10, 11, 12, 13, 14])

    def test_read(self):
        self.assertEqual([14, 12, 10], self.store.read(View(5, 4, [(3, -2)])))
        self.assertEqual([13], self.store.read(View(5, 3, [])))
        self.assertEqual([11, 12, 12, 13], self.store.read(View(5, 1, [(2, 1), (2, 1)])))
        told = self.store.read(View(5, 0, [(5, 1)]))
        told.clear()
        self.assertEqual([10, 11, 12, 13, 14], self.store.all_values())

    def test_put(self):
        values = [1, 2, 3]
        self.assertIsNone(self.store.put(View(5, 4, [(3, -2)]), values))
        self.assertEqual([3, 11, 2, 13, 1], self.store.all_values())
        self.assertEqual([1, 2, 3], values)
        values[0] = 99
        self.assertEqual([3, 11, 2, 13, 1], self.store.all_values())

    def test_of_several_on_one_cell_the_last_one_stays(self):
        self.store.put(View(5, 1, [(2, 1), (2, 1)]), [1, 2, 3, 4])
        self.assertEqual([10, 1, 3, 4, 14], self.store.all_values())
        self.store.put(View(5, 0, [(3, 0)]), [7, 8, 9])
        self.assertEqual([9, 1, 3, 4, 14], self.store.all_values())

    def test_fill(self):
        self.assertIsNone(self.store.fill(View(5, 4, [(3, -2)]), SIXTY))
        self.assertEqual([SIXTY, 11, SIXTY, 13, SIXTY], self.store.all_values())

    def test_copied(self):
        self.assertIsNone(self.store.copied(View(5, 0, [(2, 1)]), View(5, 4, [(2, -1)])))
        self.assertEqual([14, 13, 12, 13, 14], self.store.all_values())

    def test_sizes_need_not_be_alike(self):
        store = Store(list(range(12)))
        store.copied(View(12, 0, [(6, 1)]), View(12, 6, [(2, 1), (3, 2)]))
        self.assertEqual([6, 8, 10, 7, 9, 11, 6, 7, 8, 9, 10, 11], store.all_values())

    def test_views_that_overlap_in_both_directions(self):
        for to, source_view, wanted in [
            (View(5, 1, [(4, 1)]), View(5, 0, [(4, 1)]), [10, 10, 11, 12, 13]),
            (View(5, 0, [(4, 1)]), View(5, 1, [(4, 1)]), [11, 12, 13, 14, 14]),
            (View(5, 4, [(5, -1)]), View(5, 0, [(5, 1)]), [14, 13, 12, 11, 10]),
            (View(5, 0, [(5, 1)]), View(5, 0, [(5, 1)]), [10, 11, 12, 13, 14]),
            (View(5, 0, [(5, 1)]), View(5, 2, [(5, 0)]), [12, 12, 12, 12, 12]),
            (View(5, 2, [(5, 0)]), View(5, 0, [(5, 1)]), [10, 11, 14, 13, 14]),
        ]:
            store = Store([10, 11, 12, 13, 14])
            store.copied(to, source_view)
            self.assertEqual(wanted, store.all_values())

    def test_drawn(self):
        rng = source(21)
        for turn in range(300):
            values = [rng.randint(-99, 99) for cell in range(40)]
            store = Store(values)
            sizes = [rng.randint(1, 4) for axis in range(rng.randint(0, 3))]
            to, from_view = draw_view_in(rng, 40, sizes, range(-5, 6)), draw_view_in(rng, 40, sizes[::-1], range(-5, 6))
            self.assertEqual([values[cell] for cell in cells_by_sum(from_view)], store.read(from_view))
            store.copied(to, from_view)
            wanted = list(values)
            for cell, origin in zip(cells_by_sum(to), cells_by_sum(from_view)):
                wanted[cell] = values[origin]
            self.assertEqual(wanted, store.all_values())

    def test_the_whole_of_the_greatest_store(self):
        store = Store(list(range(4096)))
        view = whole([64, 64])
        store.copied(view, Slice(0, None, None, -1).on(view))
        self.assertEqual([*range(4032, 4096), *range(3968, 4032)], store.all_values()[:128])


class RefusedTest(Case):

    def setUp(self):
        self.store = Store([10, 11, 12, 13, 14])
        self.good = View(5, 0, [(2, 1)])

    def tearDown(self):
        self.assertEqual([10, 11, 12, 13, 14], self.store.all_values())

    def test_another_room(self):
        for room in [4, 6, 10 ** 18]:
            bad = View(room, 0, [(2, 1)])
            self.refuse(NoView, self.store.read, bad)
            self.refuse(NoView, self.store.put, bad, [1, 2])
            self.refuse(NoView, self.store.fill, bad, 1)
            self.refuse(NoView, self.store.copied, bad, self.good)
            self.refuse(NoView, self.store.copied, self.good, bad)

    def test_unlike_counts(self):
        for values in [[], [1], [1, 2, 3]]:
            self.refuse(NoCount, self.store.put, self.good, values)
        for other in [View(5, 0, []), View(5, 0, [(3, 1)]), View(5, 0, [(2, 1), (2, 1)])]:
            self.refuse(NoCount, self.store.copied, self.good, other)
            self.refuse(NoCount, self.store.copied, other, self.good)

    def test_counts_above_4096(self):
        self.too_many(4097, self.store.read, LONG)
        self.too_many(4097, self.store.put, LONG, [1] * 4097)
        self.too_many(4097, self.store.fill, LONG, 1)
        self.too_many(4097, self.store.copied, LONG, LONG)
        great = View(5, 2, [(10 ** 9, 0)] * 8)
        self.too_many(10 ** 72, self.store.fill, great, 1)

    def test_just_4096(self):
        self.assertEqual([12] * 4096, self.store.read(View(5, 2, [(4096, 0)])))
        self.store.put(View(5, 2, [(4096, 0)]), [1] * 4095 + [12])

    def test_which_goes_first(self):
        long_elsewhere = View(6, 2, [(4097, 0)])
        self.refuse(NoView, self.store.read, long_elsewhere)
        self.refuse(NoView, self.store.fill, long_elsewhere, 1)
        self.refuse(NoView, self.store.put, long_elsewhere, [1])
        self.refuse(NoView, self.store.copied, self.good, long_elsewhere)
        self.refuse(NoView, self.store.copied, long_elsewhere, self.good)
        self.refuse(NoView, self.store.copied, LONG, View(6, 0, []))
        self.refuse(NoCount, self.store.put, LONG, [1])
        self.refuse(NoCount, self.store.copied, LONG, self.good)
        self.refuse(NoCount, self.store.copied, self.good, LONG)

    def test_arguments(self):
        self.signed(
            (Store, "(values)"), (Store.all_values, "(self)"), (Store.read, "(self, view)"),
            (Store.put, "(self, view, values)"), (Store.fill, "(self, view, value)"),
            (Store.copied, "(self, to, source)"),
        )


if __name__ == "__main__":
    unittest.main()
