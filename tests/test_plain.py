import unittest

from pacehall.chains import Chain
from pacehall.cuts import Cut
from pacehall.floors import whole
from pacehall.moves import Fresh, Slice, Spread
from pacehall.plain import parted_at, plain, reads_same
from pacehall.views import View
from tests.helper import Case, cells_by_sum, draw_view, source

ROOM = 10 ** 18


class PlainTest(Case):

    def test_by_hand(self):
        for axes, wanted in [
            ([], []), ([(1, 0)], []), ([(1, 5), (1, 6)], []), ([(4, 3)], [(4, 3)]),
            ([(2, 3), (3, 1)], [(6, 1)]), ([(3, 1), (2, 3)], [(3, 1), (2, 3)]),
            ([(2, 3), (1, 0), (3, 1)], [(6, 1)]), ([(2, 0), (3, 0)], [(6, 0)]),
            ([(2, 12), (3, 4), (4, 1)], [(24, 1)]), ([(2, 12), (3, 4), (2, 1)], [(6, 4), (2, 1)]),
            ([(2, 13), (3, 4), (4, 1)], [(2, 13), (12, 1)]), ([(2, 6), (3, 2)], [(6, 2)]),
            ([(3, -4), (4, -1)], [(12, -1)]), ([(3, -4), (4, 1)], [(3, -4), (4, 1)]),
            ([(2, 0), (3, 5), (2, 0), (2, 0)], [(2, 0), (3, 5), (4, 0)]), ([(2, 2), (2, 0)], [(2, 2), (2, 0)]),
            ([(2, 0), (2, 1)], [(2, 0), (2, 1)]),
        ]:
            view = View(100, 50, axes)
            self.assertEqual(wanted, plain(view))
            self.assertIs(list, type(plain(view)))

    def test_sizes_above_the_bound(self):
        self.assertEqual([(10 ** 18, 1)], plain(whole([10 ** 9, 10 ** 9])))
        self.assertEqual([(10 ** 72, 0)], plain(View(1, 0, [(10 ** 9, 0)] * 8)))

    def test_the_list_is_the_askers_own(self):
        view = View(100, 50, [(2, 7), (3, -2)])
        plain(view).append((9, 9))
        plain(view)[0] = None
        self.assertEqual([(2, 7), (3, -2)], plain(view))
        self.assertEqual([(2, 7), (3, -2)], view.axes)

    # In whatever order neighbours are joined, the same is left.
    def test_joined_in_any_order(self):
        rng = source(7)
        for turn in range(400):
            view = draw_view(rng, [rng.randint(1, 3) for axis in range(rng.randint(0, 6))], [0, 1, 2, 3, 4, 6, 9, -1, -3])
            left = [axis for axis in view.axes if axis[0] > 1]
            while True:
                pairs = [k for k in range(len(left) - 1) if left[k][1] == left[k + 1][0] * left[k + 1][1]]
                if not pairs:
                    break
                k = rng.choice(pairs)
                left[k:k + 2] = [(left[k][0] * left[k + 1][0], left[k + 1][1])]
            self.assertEqual(left, plain(view))


class SameTest(Case):

    def check(self, one, other):
        mine, yours = cells_by_sum(one), cells_by_sum(other)
        same = mine == yours
        for left, right in [(one, other), (other, one)]:
            self.assertIs(same, reads_same(left, right))
            at = parted_at(left, right)
            if same:
                self.assertIsNone(at)
            elif len(mine) != len(yours):
                self.assertEqual(min(len(mine), len(yours)), at)
            else:
                self.assertIs(int, type(at))
                self.assertTrue(0 <= at < len(mine))
                self.assertNotEqual(mine[at], yours[at])
        self.assertIs(same, one.first == other.first and plain(one) == plain(other))

    def test_like_cells_told_otherwise(self):
        view = View(100, 50, [(4, 6), (6, 1)])
        for other in [
            View(100, 50, [(24, 1)]), View(100, 50, [(2, 12), (2, 6), (3, 2), (2, 1)]), Fresh(1).on(view),
            View(999, 50, [(4, 6), (1, 0), (6, 1)]), Cut(1, 3).on(view), view,
        ]:
            self.assertIs(True, reads_same(view, other))
            self.assertIsNone(parted_at(view, other))
        self.assertIs(True, reads_same(View(5, 3, []), View(9, 3, [(1, 0), (1, 0)])))

    def test_unlike_counts(self):
        self.assertEqual(3, parted_at(View(9, 0, [(3, 1)]), View(9, 0, [(4, 1)])))
        self.assertEqual(3, parted_at(View(9, 0, [(4, 1)]), View(9, 0, [(3, 1)])))
        self.assertEqual(3, parted_at(View(9, 0, [(3, 1)]), View(9, 5, [(4, -1)])))
        self.assertEqual(1, parted_at(View(9, 0, []), View(9, 8, [(2, 0)])))
        self.assertIs(False, reads_same(View(9, 0, []), View(9, 0, [(2, 0)])))

    def test_unlike_at_the_first_a_middle_and_the_last_number(self):
        self.assertEqual(0, parted_at(View(9, 0, []), View(9, 1, [])))
        self.check(View(20, 0, [(6, 1)]), View(20, 1, [(6, 1)]))
        self.check(View(20, 0, [(6, 1)]), View(20, 0, [(2, 4), (3, 1)]))
        self.check(View(20, 0, [(2, 3), (3, 1)]), View(20, 0, [(3, 3), (2, 1)]))
        self.assertEqual(1, parted_at(View(9, 0, [(2, 1)]), View(9, 0, [(2, 2)])))
        self.check(View(20, 5, [(2, 3), (2, 0)]), View(20, 5, [(2, 0), (2, 3)]))

    def test_drawn(self):
        rng = source(8)
        same = 0
        for turn in range(1500):
            sizes = [rng.choice([1, 2, 2, 3, 4]) for axis in range(rng.randint(0, 4))]
            kept = rng.choice([sizes, list(reversed(sizes)), sizes + [1], [2, 3], [6], [4, 3], [12], [2, 2, 3]])
            one, other = [
                View(1000, rng.choice([500, 500, 500, 501]), [(size, rng.choice([-2, -1, 0, 1, 2, 3, 6])) for size in told])
                for told in [sizes, kept]
            ]
            self.check(one, other)
            same += reads_same(one, other)
        self.assertGreater(same, 50)

    def test_great_counts(self):
        one = View(ROOM, 0, [(10 ** 9, 10 ** 9), (10 ** 9, 1)])
        other = View(ROOM, 0, [(10 ** 6, 10 ** 12), (10 ** 6, 10 ** 6), (10 ** 6, 1)])
        self.assertIs(True, reads_same(one, other))
        self.assertIsNone(parted_at(one, other))
        third = View(ROOM, 0, [(10 ** 6, 10 ** 12 - 1), (10 ** 6, 10 ** 6), (10 ** 6, 1)])
        for left, right in [(one, third), (third, other)]:
            at = parted_at(left, right)
            self.assertTrue(0 <= at < 10 ** 18)
            self.assertNotEqual(left.cell_at(at), right.cell_at(at))
            self.assertIs(False, reads_same(left, right))
        last = View(ROOM, 0, [(2, 10 ** 17), (10 ** 9, 0), (10 ** 7, 1)])
        half = View(ROOM, 0, [(2, 10 ** 17 - 5), (10 ** 9, 0), (10 ** 7, 1)])
        at = parted_at(last, half)
        self.assertNotEqual(last.cell_at(at), half.cell_at(at))
        self.assertEqual(10 ** 9, parted_at(View(ROOM, 0, [(10 ** 9, 1)]), View(ROOM, 9, [(10 ** 9, 1), (2, 3)])))
        great = Chain([Fresh(0), Spread(0, 10 ** 9), Slice(2, None, None, -1)]).on(one)
        self.assertEqual(1, parted_at(great, View(ROOM, great.first, [(10 ** 9, 1)] * 3)))

    def test_arguments(self):
        self.signed((plain, "(view)"), (reads_same, "(one, other)"), (parted_at, "(one, other)"))


if __name__ == "__main__":
    unittest.main()
