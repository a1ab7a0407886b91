import unittest

from pacehall.errors import NoCount, NoPair, Twice
from pacehall.floors import whole
from pacehall.moves import Slice, Turn
from pacehall.pairs import bound_pairs
from pacehall.places import number_of
from pacehall.views import View
from tests.helper import Case, all_places, draw_pair, source


# The document's words, pair by pair.
def pairs_by_hand(to, origin):
    places = all_places(to.sizes())
    found = []
    for j in places:
        for i in places:
            if i != j and to.cell(i) == origin.cell(j) and origin.cell(i) != to.cell(i):
                found.append((i, j))
    return found


class BoundPairsTest(Case):

    def test_by_hand(self):
        to, origin = View(5, 1, [(4, 1)]), View(5, 0, [(4, 1)])
        self.assertEqual([((0,), (1,)), ((1,), (2,)), ((2,), (3,))], bound_pairs(to, origin))
        self.assertEqual([((1,), (0,)), ((2,), (1,)), ((3,), (2,))], bound_pairs(origin, to))
        self.assertEqual([], bound_pairs(to, to))
        self.assertEqual([], bound_pairs(View(9, 3, []), View(9, 5, [])))
        self.assertEqual([], bound_pairs(View(9, 0, [(2, 1)]), View(9, 5, [(2, 1)])))

    def test_turned_about(self):
        view = whole([3])
        self.assertEqual([((2,), (0,)), ((0,), (2,))], bound_pairs(view, Slice(0, None, None, -1).on(view)))
        view = whole([2, 2])
        self.assertEqual([((1, 0), (0, 1)), ((0, 1), (1, 0))], bound_pairs(view, Turn([1, 0]).on(view)))

    def test_what_stays_binds_nothing(self):
        self.assertEqual([], bound_pairs(whole([3]), View(3, 0, [(3, 0)])))
        self.assertEqual([], bound_pairs(whole([3]), View(3, 1, [(3, 0)])))
        self.assertEqual([], bound_pairs(View(3, 2, [(3, -1)]), View(3, 1, [(3, 0)])))
        self.assertEqual([((1,), (0,)), ((0,), (2,))], bound_pairs(View(9, 4, [(3, 2)]), View(9, 6, [(3, -1)])))

    def test_by_rising_numbers_of_j(self):
        rng = source(27)
        many = 0
        for turn in range(500):
            to, origin = draw_pair(rng)
            told = bound_pairs(to, origin)
            self.assertIs(list, type(told))
            self.assertEqual(pairs_by_hand(to, origin), told)
            numbers = [number_of(to.sizes(), j) for i, j in told]
            self.assertEqual(sorted(numbers), numbers)
            many += len(told)
        self.assertGreater(many, 500)

    def test_refused_in_order(self):
        good = View(5, 0, [(2, 1)])
        twice = View(5, 0, [(2, 0)])
        long = View(5, 0, [(4097, 0)])
        self.refuse(NoPair, bound_pairs, good, View(6, 0, [(2, 1)]))
        self.refuse(NoPair, bound_pairs, long, View(6, 0, []))
        self.refuse(NoPair, bound_pairs, twice, View(6, 0, [(2, 1)]))
        for other in [View(5, 0, []), View(5, 0, [(3, 1)]), View(5, 0, [(2, 1), (1, 0)]), long]:
            self.refuse(NoCount, bound_pairs, good, other)
            self.refuse(NoCount, bound_pairs, twice, other)
        self.too_many(4097, bound_pairs, long, long)
        self.too_many(4097, bound_pairs, View(4097, 0, [(4097, 1)]), View(4097, 0, [(4097, 1)]))
        told = self.refuse(Twice, bound_pairs, twice, good)
        self.assertEqual({(0,), (1,)}, {told.one, told.other})
        told = self.refuse(Twice, bound_pairs, View(5, 0, [(2, 1), (2, 1)]), whole([2, 2], 5))
        self.assertEqual({(0, 1), (1, 0)}, {told.one, told.other})

    def test_the_second_view_may_have_a_cell_twice(self):
        self.assertEqual([], bound_pairs(View(5, 0, [(2, 1)]), View(5, 3, [(2, 0)])))

    def test_great_ones(self):
        to, origin = View(4097, 1, [(64, 64), (64, 1)]), View(4097, 0, [(64, 64), (64, 1)])
        told = bound_pairs(to, origin)
        self.assertEqual(4095, len(told))
        self.assertEqual(((0, 0), (0, 1)), told[0])
        self.assertEqual(((0, 63), (1, 0)), told[63])

    def test_the_list_is_the_askers_own(self):
        to, origin = View(5, 1, [(4, 1)]), View(5, 0, [(4, 1)])
        bound_pairs(to, origin).clear()
        self.assertEqual(3, len(bound_pairs(to, origin)))

    def test_arguments(self):
        self.signed((bound_pairs, "(to, source)"))


if __name__ == "__main__":
    unittest.main()
