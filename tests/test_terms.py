import itertools
import unittest

from pacehall.errors import NoPair
from pacehall.floors import whole
from pacehall.terms import gathered
from pacehall.views import View
from tests.helper import Case, cells_by_sum, draw_view_in, source

ROOM = 10 ** 18


# How many times each pace may come in, axis by axis, all numbers told one by one.
def by_hand(one, other):
    found = {}
    for view, sign in [(one, 1), (other, -1)]:
        for size, pace in view.axes:
            if pace:
                many = [sign * number * (1 if pace > 0 else -1) for number in range(size)]
                found[abs(pace)] = {a + b for a in found.get(abs(pace), {0}) for b in many}
    return [(times, min(found[times]), max(found[times])) for times in sorted(found, reverse=True)]


class GatheredTest(Case):

    def test_by_hand(self):
        one = View(100, 10, [(3, 7), (2, -2), (4, 1)])
        other = View(100, 60, [(5, -7), (2, 3), (3, 2)])
        self.assertEqual(([(7, 0, 6), (3, -1, 0), (2, -3, 0), (1, 0, 3)], 50), gathered(one, other))
        self.assertEqual(([(7, -6, 0), (3, 0, 1), (2, 0, 3), (1, -3, 0)], -50), gathered(other, one))

    def test_like_paces_of_both_views_and_signs(self):
        one = View(100, 50, [(3, 4), (2, -4), (5, 4)])
        other = View(100, 50, [(4, 4), (6, -4)])
        self.assertEqual(([(4, -4, 11)], 0), gathered(one, other))

    def test_paces_nought_and_sizes_one(self):
        one = View(9, 4, [(5, 0), (1, 7)])
        self.assertEqual(([], 2), gathered(one, View(9, 6, [(1, 3), (9, 0)])))
        self.assertEqual(([(3, -1, 0)], -3), gathered(one, View(9, 1, [(1, 2), (2, 3)])))
        self.assertEqual(([], 0), gathered(View(1, 0, []), View(1, 0, [])))

    def test_the_greatest_first(self):
        terms, goal = gathered(whole([2, 3, 4, 5]), whole([5, 4, 3, 2]))
        self.assertEqual([60, 24, 20, 6, 5, 2, 1], [term[0] for term in terms])
        self.assertEqual([(60, 0, 1), (24, -4, 0), (20, 0, 2), (6, -3, 0), (5, 0, 3), (2, -2, 0), (1, -1, 4)], terms)
        self.assertEqual(0, goal)

    def test_drawn(self):
        rng = source(12)
        for turn in range(400):
            one, other = draw_view_in(rng, 60), draw_view_in(rng, 60)
            told = gathered(one, other)
            self.assertIs(tuple, type(told))
            terms, goal = told
            self.assertEqual(by_hand(one, other), terms)
            self.assertEqual(other.first - one.first, goal)
            self.assertTrue(all(low < high for times, low, high in terms))

    def test_they_share_a_cell_just_where_a_sum_is_the_goal(self):
        rng = source(13)
        for turn in range(200):
            one, other = draw_view_in(rng, 40, None, range(-5, 6)), draw_view_in(rng, 40, None, range(-5, 6))
            terms, goal = gathered(one, other)
            ranges = [range(low, high + 1) for times, low, high in terms]
            found = any(
                sum(term[0] * number for term, number in zip(terms, numbers)) == goal
                for numbers in itertools.product(*ranges)
            )
            self.assertEqual(bool(set(cells_by_sum(one)) & set(cells_by_sum(other))), found)

    def test_great_views(self):
        one = View(ROOM, 0, [(10 ** 9, 10 ** 8), (10 ** 9, 10 ** 8 - 1)])
        other = View(ROOM, ROOM - 1, [(10 ** 9, -(10 ** 8))])
        most = 10 ** 9 - 1
        self.assertEqual(([(10 ** 8, 0, 2 * most), (10 ** 8 - 1, 0, most)], ROOM - 1), gathered(one, other))

    def test_unlike_rooms(self):
        self.refuse(NoPair, gathered, View(9, 0, []), View(10, 0, []))
        self.refuse(NoPair, gathered, View(10, 0, [(2, 1)]), View(9, 0, [(2, 1)]))

    def test_the_list_is_the_askers_own(self):
        one, other = whole([2, 3]), whole([6])
        gathered(one, other)[0].clear()
        self.assertEqual([(3, 0, 1), (1, -5, 2)], gathered(one, other)[0])

    def test_arguments(self):
        self.signed((gathered, "(one, other)"))


if __name__ == "__main__":
    unittest.main()
