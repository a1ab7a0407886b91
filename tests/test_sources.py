import unittest

from pacehall.errors import NoCount, NoPair
from pacehall.floors import whole
from pacehall.moves import Slice, Turn
from pacehall.sources import rings, sources
from pacehall.stores import Store
from pacehall.views import View
from tests.helper import Case, cells_by_sum, draw_view_in, source


# The document's words, cell by cell: walk on from each cell and see whether one comes back.
def rings_by_hand(found):
    told = []
    for start in sorted(found):
        cells = [start]
        while found.get(cells[-1]) is not None and found[cells[-1]] not in cells:
            cells.append(found[cells[-1]])
        if found.get(cells[-1]) == start and len(cells) > 1 and start == min(cells):
            beyond = [cell for cell in found if cell not in cells and found[cell] in cells]
            told.append((cells, not beyond))
    return told


class SourcesTest(Case):

    def test_by_hand(self):
        self.assertEqual({0: 4, 1: 3}, sources(View(5, 0, [(2, 1)]), View(5, 4, [(2, -1)])))
        self.assertEqual({0: 0, 1: 1, 2: 2}, sources(whole([3]), whole([3])))
        self.assertEqual({3: 3}, sources(View(5, 3, []), View(5, 3, [])))

    def test_cells_that_several_numbers_write(self):
        self.assertEqual({2: 4}, sources(View(5, 2, [(5, 0)]), View(5, 0, [(5, 1)])))
        self.assertEqual({1: 0, 2: 2, 3: 3}, sources(View(5, 1, [(2, 1), (2, 1)]), View(5, 0, [(4, 1)])))

    def test_sizes_need_not_be_alike(self):
        told = sources(View(12, 0, [(6, 1)]), View(12, 6, [(2, 1), (3, 2)]))
        self.assertEqual({0: 6, 1: 8, 2: 10, 3: 7, 4: 9, 5: 11}, told)

    def test_drawn(self):
        rng = source(22)
        for turn in range(300):
            sizes = [rng.randint(1, 4) for axis in range(rng.randint(0, 3))]
            to, from_view = draw_view_in(rng, 40, sizes, range(-5, 6)), draw_view_in(rng, 40, sizes[::-1], range(-5, 6))
            told = sources(to, from_view)
            self.assertIs(dict, type(told))
            store = Store(list(range(40)))
            store.copied(to, from_view)
            self.assertEqual(set(cells_by_sum(to)), set(told))
            self.assertEqual([told.get(cell, cell) for cell in range(40)], store.all_values())

    def test_refused_in_order(self):
        long = View(5, 2, [(4097, 0)])
        self.refuse(NoPair, sources, View(5, 0, [(2, 1)]), View(6, 0, [(2, 1)]))
        self.refuse(NoPair, sources, long, View(6, 0, []))
        self.refuse(NoCount, sources, View(5, 0, [(2, 1)]), View(5, 0, [(3, 1)]))
        self.refuse(NoCount, sources, long, View(5, 0, []))
        self.refuse(NoCount, sources, View(5, 0, []), long)
        self.too_many(4097, sources, long, long)
        self.too_many(4097, sources, View(4097, 0, [(4097, 1)]), View(4097, 0, [(4097, 1)]))
        self.assertEqual(4096, len(sources(whole([4096]), whole([64, 64]))))

    def test_the_dict_is_the_askers_own(self):
        sources(whole([3]), whole([3])).clear()
        self.assertEqual({0: 0, 1: 1, 2: 2}, sources(whole([3]), whole([3])))


class RingsTest(Case):

    def test_by_hand(self):
        self.assertEqual([], rings({}))
        self.assertEqual([], rings({3: 3}))
        self.assertEqual([], rings({0: 1, 1: 2, 2: 3}))
        self.assertEqual([([0, 1], True)], rings({0: 1, 1: 0}))
        self.assertEqual([([0, 1], True)], rings({1: 0, 0: 1}))
        self.assertEqual([([0, 2, 1], True)], rings({1: 0, 0: 2, 2: 1}))
        self.assertEqual([([0, 1], False)], rings({0: 1, 1: 0, 2: 1}))
        self.assertEqual([([0, 1], True)], rings({0: 1, 1: 0, 2: 3}))
        self.assertEqual([([0, 1], True)], rings({0: 1, 1: 0, 2: 2, 4: 2}))

    def test_several_by_rising_least_cells(self):
        found = {9: 5, 5: 9, 8: 2, 2: 7, 7: 8, 1: 6, 6: 1, 3: 9, 4: 4, 0: 3}
        self.assertEqual([([1, 6], True), ([2, 7, 8], True), ([5, 9], False)], rings(found))

    def test_a_walk_that_leads_into_a_ring(self):
        self.assertEqual([([1, 2, 3], False)], rings({0: 2, 1: 2, 2: 3, 3: 1}))
        self.assertEqual([([2, 3], False)], rings({0: 1, 1: 2, 2: 3, 3: 2}))
        self.assertEqual([([2, 3], False)], rings({4: 2, 2: 3, 3: 2}))

    def test_drawn(self):
        rng = source(23)
        for turn in range(600):
            cells = rng.sample(range(12), rng.randint(0, 12))
            found = {cell: rng.randrange(12) for cell in cells}
            if rng.random() < 0.5:
                found = dict(zip(cells, rng.sample(cells, len(cells))))
                for cell in range(12):
                    if cell not in found and rng.random() < 0.3:
                        found[cell] = rng.randrange(12)
            kept = dict(found)
            self.assertEqual(rings_by_hand(found), rings(found))
            self.assertEqual(list(kept.items()), list(found.items()))

    def test_of_copies(self):
        view = whole([3, 3])
        told = rings(sources(view, Turn([1, 0]).on(view)))
        self.assertEqual([([1, 3], True), ([2, 6], True), ([5, 7], True)], told)
        self.assertEqual([([0, 2], True)], rings(sources(whole([3]), Slice(0, None, None, -1).on(whole([3])))))

    def test_great_ones(self):
        found = {cell: (cell + 1) % 4096 for cell in range(4096)}
        self.assertEqual([(list(range(4096)), True)], rings(found))
        found = {cell: cell ^ 1 for cell in reversed(range(4096))}
        self.assertEqual([([cell, cell + 1], True) for cell in range(0, 4096, 2)], rings(found))
        self.assertEqual([], rings({cell: cell + 1 for cell in range(4096)}))
        self.assertEqual([], rings({cell + 1: cell for cell in range(4096)}))

    def test_lists_are_the_askers_own(self):
        found = {0: 1, 1: 0}
        rings(found)[0][0].clear()
        self.assertEqual([([0, 1], True)], rings(found))
        told = rings(found)
        found.clear()
        self.assertEqual([([0, 1], True)], told)

    def test_arguments(self):
        self.signed((sources, "(to, source)"), (rings, "(found)"))


if __name__ == "__main__":
    unittest.main()
