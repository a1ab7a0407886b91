import itertools
import math
import unittest

from pacehall.cases import greatest_sum, is_ended, least_sum, rest_of
from tests.helper import Case, source


def own_case(terms):
    return [(low, high) for times, low, high in terms]


class SumsTest(Case):

    def test_by_hand(self):
        terms = [(12, -3, 4), (8, 0, 2), (3, -1, 0)]
        case = [(-3, 4), (1, 2), (0, 0)]
        self.assertEqual(-28, least_sum(terms, case))
        self.assertEqual(64, greatest_sum(terms, case))
        self.assertEqual(4, rest_of(terms, case))
        self.assertEqual(1, rest_of(terms, own_case(terms)))
        self.assertEqual(8, rest_of(terms, [(4, 4), (0, 1), (-1, -1)]))

    def test_none(self):
        self.assertEqual((0, 0, 0), (least_sum([], []), greatest_sum([], []), rest_of([], [])))
        self.assertEqual(0, rest_of([(12, -3, 4), (8, 0, 2)], [(1, 1), (2, 2)]))

    def test_great_numbers(self):
        terms = [(10 ** 18, -(10 ** 9), 10 ** 9), (6 * 10 ** 17, 0, 10 ** 10)]
        self.assertEqual(-(10 ** 27), least_sum(terms, own_case(terms)))
        self.assertEqual(10 ** 27 + 6 * 10 ** 27, greatest_sum(terms, own_case(terms)))
        self.assertEqual(2 * 10 ** 17, rest_of(terms, own_case(terms)))

    def test_what_is_handed_in_stays(self):
        terms = [(12, -3, 4), (8, 0, 2)]
        case = [(0, 1), (1, 1)]
        least_sum(terms, case), greatest_sum(terms, case), rest_of(terms, case), is_ended(terms, 5, case)
        self.assertEqual(([(12, -3, 4), (8, 0, 2)], [(0, 1), (1, 1)]), (terms, case))


class EndedTest(Case):

    def test_by_the_least_sum(self):
        terms = [(5, 0, 4), (3, -2, 9)]
        case = [(2, 3), (0, 4)]
        self.assertIs(True, is_ended(terms, 9, case))
        self.assertIs(False, is_ended(terms, 10, case))
        self.assertIs(True, is_ended(terms, -(10 ** 60), case))

    def test_by_the_greatest_sum(self):
        terms = [(5, 0, 4), (3, -2, 9)]
        case = [(2, 3), (0, 4)]
        self.assertIs(True, is_ended(terms, 28, case))
        self.assertIs(False, is_ended(terms, 27, case))

    def test_by_the_rest(self):
        terms = [(6, 0, 4), (9, -2, 9), (5, 0, 3)]
        for goal in range(5, 39):
            self.assertIs(goal % 3 != 2, is_ended(terms, goal, [(0, 4), (0, 1), (1, 1)]))
        self.assertIs(False, is_ended(terms, 16, [(0, 4), (0, 1), (0, 2)]))
        self.assertIs(False, is_ended(terms, 11, [(0, 4), (0, 1), (1, 1)]))
        self.assertIs(True, is_ended(terms, 10, [(0, 4), (0, 1), (1, 1)]))

    def test_a_rest_of_one_ends_nothing(self):
        self.assertIs(False, is_ended([(1, 0, 9)], 4, [(0, 9)]))
        self.assertIs(False, is_ended([(7, 0, 9), (5, 0, 9)], 1, [(0, 9), (0, 9)]))

    def test_a_case_of_single_numbers(self):
        terms = [(6, 0, 4), (9, -2, 9)]
        self.assertIs(False, is_ended(terms, 12 + 9, [(2, 2), (1, 1)]))
        self.assertIs(True, is_ended(terms, 12 + 8, [(2, 2), (1, 1)]))
        self.assertIs(True, is_ended(terms, 12 + 10, [(2, 2), (1, 1)]))
        self.assertIs(False, is_ended([], 0, []))
        self.assertIs(True, is_ended([], 1, []))
        self.assertIs(True, is_ended([], -1, []))

    def test_drawn(self):
        rng = source(14)
        seen = {True: 0, False: 0}
        for turn in range(600):
            terms, case = [], []
            for k in range(rng.randint(0, 4)):
                low = rng.randint(-4, 3)
                high = low + rng.randint(1, 5)
                terms.append((rng.randint(1, 12), low, high))
                case.append(tuple(sorted([rng.randint(low, high), rng.randint(low, high)])))
            goal = rng.randint(-40, 40)
            numbers = [range(low, high + 1) for low, high in case]
            sums = [sum(t[0] * n for t, n in zip(terms, drawn)) for drawn in itertools.product(*numbers)]
            self.assertEqual((min(sums), max(sums)), (least_sum(terms, case), greatest_sum(terms, case)))
            rest = math.gcd(*[t[0] for t, bounds in zip(terms, case) if bounds[0] < bounds[1]])
            self.assertEqual(rest, rest_of(terms, case))
            ended = min(sums) > goal or max(sums) < goal or (rest > 1 and (goal - min(sums)) % rest != 0)
            self.assertIs(ended, is_ended(terms, goal, case))
            if ended:
                self.assertNotIn(goal, sums)
            seen[ended] += 1
        self.assertGreater(min(seen.values()), 50)

    def test_arguments(self):
        self.signed(
            (least_sum, "(terms, case)"), (greatest_sum, "(terms, case)"), (rest_of, "(terms, case)"),
            (is_ended, "(terms, goal, case)"),
        )


if __name__ == "__main__":
    unittest.main()
