import unittest

from pacehall.floors import whole
from pacehall.moves import Slice, Turn
from pacehall.rows import rows_for, run_rows
from pacehall.sources import rings, sources
from pacehall.stores import Store
from tests.helper import Case, draw_view_in, source


def run_by_hand(values, rows):
    cells = dict(enumerate(values))
    cells[-1] = 0
    for origin, cell in rows:
        cells[cell] = cells[origin]
    return [cells[cell] for cell in range(len(values))]


class RowsForTest(Case):

    def check(self, found, room=None):
        room = room or max([0, *found, *found.values()]) + 1
        kept = list(found.items())
        rows = rows_for(found)
        self.assertEqual(kept, list(found.items()))
        self.assertIs(list, type(rows))
        for row in rows:
            self.assertIs(tuple, type(row))
            self.assertTrue(all(-1 <= cell < room for cell in row))
        # No two values alike and none like the spare's, so that each may be told from all others.
        values = [cell + 100 for cell in range(room)]
        wanted = [values[found.get(cell, cell)] for cell in range(room)]
        self.assertEqual(wanted, run_by_hand(values, rows))
        bare = sum(1 for cells, bare in rings(found) if bare)
        self.assertEqual(sum(1 for cell in found if found[cell] != cell) + bare, len(rows))
        store = Store(values)
        self.assertIsNone(run_rows(store, rows))
        self.assertEqual(wanted, store.all_values())
        return rows

    def test_by_hand(self):
        self.assertEqual([], self.check({}))
        self.assertEqual([], self.check({3: 3, 0: 0}))
        self.assertEqual([(5, 2)], self.check({2: 5}))
        self.assertEqual([(1, 0), (2, 1), (3, 2)], self.check({0: 1, 1: 2, 2: 3}))
        self.assertEqual([(1, 0), (2, 1), (3, 2)], self.check({2: 3, 1: 2, 0: 1}))

    def test_no_ring(self):
        self.check({0: 5, 1: 5, 2: 5, 5: 5})
        self.check({0: 1, 1: 2, 3: 2, 2: 6, 6: 6})
        self.check({4: 0, 3: 4, 2: 3, 1: 2})

    def test_bare_rings(self):
        self.assertEqual(3, len(self.check({0: 1, 1: 0})))
        self.assertEqual(4, len(self.check({0: 1, 1: 2, 2: 0})))
        self.assertEqual(6, len(self.check({0: 1, 1: 0, 5: 7, 7: 5})))

    def test_rings_that_are_not_bare(self):
        self.assertEqual(3, len(self.check({0: 1, 1: 0, 2: 1})))
        self.assertEqual(3, len(self.check({0: 1, 1: 0, 2: 0})))
        self.assertEqual(6, len(self.check({0: 1, 1: 2, 2: 0, 3: 1, 4: 3, 5: 1})))
        self.assertEqual(5, len(self.check({0: 1, 1: 2, 2: 0, 3: 2, 4: 1})))

    def test_several_of_both_sorts(self):
        self.assertEqual(4 + 3 + 2 + 2, len(self.check({0: 1, 1: 0, 2: 3, 3: 2, 4: 5, 5: 6, 6: 4, 7: 5, 8: 7})))

    def test_drawn(self):
        rng = source(24)
        for turn in range(800):
            cells = rng.sample(range(10), rng.randint(0, 10))
            found = dict(zip(cells, rng.sample(cells, len(cells))))
            for cell in range(10):
                if cell not in found and rng.random() < 0.4 or rng.random() < 0.1:
                    found[cell] = rng.randrange(10)
            keys = list(found)
            rng.shuffle(keys)
            self.check({cell: found[cell] for cell in keys}, 10)

    def test_of_copies(self):
        rng = source(25)
        for turn in range(300):
            sizes = [rng.randint(1, 4) for axis in range(rng.randint(0, 3))]
            paces = rng.choice([range(-5, 6), [1, -1, 3, 4], [0, 1]])
            to, origin = draw_view_in(rng, 30, sizes, paces), draw_view_in(rng, 30, sizes, paces)
            values = [rng.randint(-9, 9) for cell in range(30)]
            one, other = Store(values), Store(values)
            one.copied(to, origin)
            rows = self.check(sources(to, origin), 30)
            run_rows(other, rows)
            self.assertEqual(one.all_values(), other.all_values())

    def test_great_ones(self):
        view = whole([64, 64])
        self.assertEqual(4032 + 2016, len(self.check(sources(view, Turn([1, 0]).on(view)))))
        self.check(sources(view, Slice(1, None, None, -1).on(view)))
        self.check({cell: (cell + 1) % 4096 for cell in range(4096)})
        self.check({cell: cell + 1 for cell in range(4095)})
        self.check({cell + 1: cell for cell in range(4095)})
        self.check({cell: (cell + 1) % 2048 if cell < 2048 else cell - 2048 for cell in range(4096)})

    def test_the_list_is_the_askers_own(self):
        found = {0: 1, 1: 0}
        rows_for(found).clear()
        self.assertEqual(3, len(rows_for(found)))


class RunRowsTest(Case):

    def test_the_spare_holds_nought_ahead_of_each_run(self):
        store = Store([7, 8, 9])
        run_rows(store, [(-1, 1)])
        self.assertEqual([7, 0, 9], store.all_values())
        run_rows(store, [(2, -1), (0, 2), (-1, 0)])
        self.assertEqual([9, 0, 7], store.all_values())
        run_rows(store, [(-1, 0)])
        self.assertEqual([0, 0, 7], store.all_values())

    def test_one_after_another(self):
        store = Store([1, 2, 3, 4])
        run_rows(store, [(0, 1), (1, 2), (2, 3)])
        self.assertEqual([1, 1, 1, 1], store.all_values())
        store = Store([1, 2, 3, 4])
        run_rows(store, [(2, 3), (1, 2), (0, 1), (3, 3), (-1, -1)])
        self.assertEqual([1, 1, 2, 3], store.all_values())

    def test_none(self):
        store = Store([5])
        run_rows(store, [])
        self.assertEqual([5], store.all_values())

    def test_the_last_cell_is_not_the_spare(self):
        store = Store([1, 2, 3])
        run_rows(store, [(0, -1)])
        self.assertEqual([1, 2, 3], store.all_values())

    def test_rows_stay(self):
        rows = [(0, 1), (1, 0)]
        run_rows(Store([1, 2]), rows)
        self.assertEqual([(0, 1), (1, 0)], rows)

    def test_arguments(self):
        self.signed((rows_for, "(found)"), (run_rows, "(store, rows)"))


if __name__ == "__main__":
    unittest.main()
