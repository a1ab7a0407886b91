import math
import unittest

from pacehall.cases import is_ended
from pacehall.errors import NoMost, NoPair
from pacehall.floors import whole
from pacehall.sharing import is_apart, shares
from pacehall.terms import gathered
from pacehall.views import View
from tests.helper import NO_NUMBERS, SIXTY, Case, Prickly, cells_by_sum, draw_view_in, source

ROOM = 10 ** 18
EVEN = View(30, 0, [(5, 2)])
ODD = View(30, 1, [(5, 2)])


# A paper read by the document's words; what is parted while it is ended is held against it too.
def reads_well(one, other, paper):
    terms, goal = gathered(one, other)
    cases = [[(low, high) for times, low, high in terms]]
    for step in paper:
        case = cases.pop()
        least = sum(term[0] * bounds[0] for term, bounds in zip(terms, case))
        greatest = sum(term[0] * bounds[1] for term, bounds in zip(terms, case))
        if step[0] == "part":
            word, k, at = step
            if is_ended(terms, goal, case) or not case[k][0] <= at < case[k][1]:
                return False
            cases.append(case[:k] + [(at + 1, case[k][1])] + case[k + 1:])
            cases.append(case[:k] + [(case[k][0], at)] + case[k + 1:])
        elif step == ("low",):
            if not least > goal:
                return False
        elif step == ("high",):
            if not greatest < goal:
                return False
        else:
            word, m = step
            times = [term[0] for term, bounds in zip(terms, case) if bounds[0] < bounds[1]]
            if word != "rest" or m < 2 or any(t % m for t in times) or (goal - least) % m == 0:
                return False
    return not cases


def product_of(one, other):
    return math.prod(high - low + 1 for times, low, high in gathered(one, other)[0])


def is_falling(terms):
    behind = [sum(t * (high - low) for t, low, high in terms[k + 1:]) for k in range(len(terms))]
    return all(term[0] > rest for term, rest in zip(terms, behind))


class SharesTest(Case):

    def holds(self, one, other, told):
        if told[0] == "shared":
            self.assertEqual(3, len(told))
            self.assertEqual([tuple, tuple], [type(place) for place in told[1:]])
            self.assertEqual(one.cell(told[1]), other.cell(told[2]))
        elif told[0] == "apart":
            self.assertEqual(2, len(told))
            self.assertIs(list, type(told[1]))
            self.assertTrue(reads_well(one, other, told[1]))
            self.assertIs(True, is_apart(one, other, told[1]))
        else:
            self.assertEqual(("open",), told)

    def check(self, one, other, most=1000):
        told = shares(one, other, most)
        self.assertIs(tuple, type(told))
        self.holds(one, other, told)
        terms, goal = gathered(one, other)
        if most >= 2 * product_of(one, other) - 1 or (is_falling(terms) and most >= 1 + 4 * len(terms)):
            self.assertNotEqual(("open",), told)
        if max(one.count(), other.count()) <= 4096 and told != ("open",):
            shared = bool(set(cells_by_sum(one)) & set(cells_by_sum(other)))
            self.assertEqual("shared" if shared else "apart", told[0])
        return told

    def test_by_hand(self):
        self.assertEqual(("shared", (), ()), shares(View(9, 4, []), View(9, 4, [])))
        self.assertEqual(("apart", [("high",)]), shares(View(9, 4, []), View(9, 5, [])))
        self.assertEqual(("apart", [("low",)]), shares(View(9, 5, []), View(9, 4, [])))
        self.assertEqual(("apart", [("rest", 2)]), shares(EVEN, ODD))
        self.assertEqual(("shared", (2,), (0,)), shares(View(9, 2, [(3, 1)]), View(9, 4, [(3, 1)])))

    def test_the_only_place(self):
        told = self.check(View(100, 0, [(5, 3), (3, 20)]), View(100, 52, [(4, 15)]))
        self.assertEqual(52, View(100, 0, [(5, 3), (3, 20)]).cell(told[1]))
        told = self.check(View(100, 99, [(10, -11)]), View(100, 0, [(2, 0), (1, 7)]))
        self.assertEqual((9,), told[1])

    def test_apart_by_each_way(self):
        for one, other, word in [
            (View(50, 30, [(3, 2), (2, 7)]), View(50, 0, [(5, 3), (3, 4)]), "low"),
            (View(50, 0, [(5, 3), (3, 4)]), View(50, 30, [(3, 2), (2, 7)]), "high"),
            (View(50, 0, [(5, 6)]), View(50, 1, [(3, 9)]), "rest"),
        ]:
            told = self.check(one, other, 1)
            self.assertEqual((("apart"), [word]), (told[0], [step[0] for step in told[1]]))

    def test_apart_by_parting(self):
        told = self.check(View(100, 0, [(3, 30)]), View(100, 10, [(11, 1)]))
        self.assertEqual("apart", told[0])
        self.assertIn("part", [step[0] for step in told[1]])

    def test_drawn(self):
        rng = source(15)
        seen = {"shared": 0, "apart": 0, "open": 0}
        for turn in range(1200):
            room = rng.choice([20, 60, 200])
            paces = rng.choice([range(-7, 8), range(-40, 41), [0, 2, 4, 6, -6], [1, 10, -1, -10, 3]])
            one, other = draw_view_in(rng, room, None, paces), draw_view_in(rng, room, None, paces)
            for most in [rng.choice([1, 2, 3, 5, 9]), rng.randint(10, 40), 1000, 100000]:
                seen[self.check(one, other, most)[0]] += 1
        self.assertGreater(min(seen.values()), 100)

    def test_just_as_many_cases_as_the_product_tells(self):
        rng = source(16)
        parted = 0
        for turn in range(900):
            one, other = draw_view_in(rng, 200, None, range(-40, 41)), draw_view_in(rng, 200, None, range(-40, 41))
            most = 2 * product_of(one, other) - 1
            if most <= 100000:
                told = self.check(one, other, most)
                parted += told[0] == "apart" and len(told[1]) > 1
        self.assertGreater(parted, 30)

    def test_most_of_just_enough_and_of_one_less(self):
        rng = source(17)
        seen = 0
        for turn in range(600):
            one, other = draw_view_in(rng, 200, None, range(-40, 41)), draw_view_in(rng, 200, None, range(-40, 41))
            told = shares(one, other)
            if told[0] == "apart":
                self.assertEqual(told, shares(one, other, len(told[1])))
                if len(told[1]) > 1:
                    seen += 1
                    self.assertEqual(("open",), shares(one, other, len(told[1]) - 1))
                    self.assertEqual(("open",), shares(one, other, 1))
            elif told[0] == "shared":
                few = [shares(one, other, most)[0] for most in list(range(1, 12)) + [30, 100, 300, 1000]]
                at = few.index("shared")
                self.assertEqual(["open"] * at + ["shared"] * (len(few) - at), few)
        self.assertGreater(seen, 50)

    def test_falling_times(self):
        rng = source(18)
        seen = {"shared": 0, "apart": 0}
        for turn in range(500):
            axes, behind = [], 0
            for k in range(rng.randint(1, 8)):
                size = rng.choice([2, 3, rng.randint(2, 50), 10 ** rng.randint(1, 2)])
                pace = behind + rng.randint(1, 3)
                behind += pace * (size - 1)
                axes.append((size, pace, rng.choice([1, -1]), rng.random() < 0.5))
            if 3 * behind + 3 > ROOM:
                continue
            one = [(size, pace * sign) for size, pace, sign, mine in axes if mine]
            other = [(size, pace * sign) for size, pace, sign, mine in axes if not mine]
            rng.shuffle(one)
            rng.shuffle(other)
            first = rng.randint(behind, 2 * behind)
            one = View(3 * behind + 3, first, one)
            other = View(3 * behind + 3, min(max(first + rng.randint(-behind, behind), behind), 2 * behind), other)
            if rng.random() < 0.5:
                target = one.cell(tuple(rng.randrange(size) for size in one.sizes()))
                place = tuple(rng.randrange(size) for size in other.sizes())
                shift = target - other.cell(place)
                if 0 <= other.least() + shift and other.greatest() + shift < other.room:
                    other = View(other.room, other.first + shift, other.axes)
            terms, goal = gathered(one, other)
            self.assertTrue(is_falling(terms))
            told = self.check(one, other, 1 + 4 * len(terms))
            seen[told[0]] += 1
        self.assertGreater(min(seen.values()), 100)

    def test_falling_times_of_great_views(self):
        one = whole([10 ** 9, 10 ** 9])
        self.assertEqual("shared", self.check(one, View(ROOM, 123456789123456789, []), 9)[0])
        other = View(ROOM, 5, [(10 ** 8, 10 ** 10)])
        told = self.check(View(ROOM, 0, [(10 ** 8, 10 ** 10)]), other, 5)
        self.assertEqual("apart", told[0])
        rows = View(ROOM, 0, [(10 ** 9, 10 ** 9), (5 * 10 ** 8, 1)])
        rest = View(ROOM, 5 * 10 ** 8, [(10 ** 9, 10 ** 9), (5 * 10 ** 8, 1)])
        self.assertEqual("apart", self.check(rows, rest, 9)[0])
        self.assertEqual("shared", self.check(rows, View(ROOM, 5 * 10 ** 8 - 1, rest.axes), 9)[0])

    def test_paces_nought(self):
        told = self.check(View(9, 4, [(5, 0), (2, 1)]), View(9, 5, [(10 ** 9, 0)]))
        self.assertEqual("shared", told[0])

    def test_no_most(self):
        for most in NO_NUMBERS + [0, -1, 100001, SIXTY, -SIXTY]:
            self.refuse(NoMost, shares, EVEN, ODD, most)
        for most in [1, 2, 99999, 100000]:
            self.assertEqual("apart", shares(EVEN, ODD, most)[0])
        self.assertEqual(("apart", [("rest", 2)]), shares(EVEN, ODD, most=1))

    def test_unlike_rooms_go_ahead(self):
        other = View(31, 1, [(5, 2)])
        self.refuse(NoPair, shares, EVEN, other)
        for most in [0, None, True, 100001, "x"]:
            self.refuse(NoPair, shares, EVEN, other, most)

    def test_the_left_out_most_is_a_thousand(self):
        rng = source(19)
        for turn in range(60):
            one = draw_view_in(rng, 10 ** 6, [30, 20, 30], range(-9999, 9999))
            other = draw_view_in(rng, 10 ** 6, [25, 30, 20], range(-9999, 9999))
            self.assertEqual(shares(one, other, 1000), shares(one, other))

    def test_the_paper_is_the_askers_own(self):
        told = shares(EVEN, ODD)
        told[1].clear()
        self.assertEqual(("apart", [("rest", 2)]), shares(EVEN, ODD))


class IsApartTest(Case):

    def setUp(self):
        # Terms (30, 0, 2) and (1, -10, 0), goal 10.
        self.one = View(100, 0, [(3, 30)])
        self.other = View(100, 10, [(11, 1)])
        self.paper = [
            ("part", 0, 0), ("high",), ("part", 0, 1), ("low",), ("low",),
        ]

    def says(self, wanted, paper):
        self.assertIs(wanted, is_apart(self.one, self.other, paper))

    def test_the_terms_of_these(self):
        self.assertEqual(([(30, 0, 2), (1, -10, 0)], 10), gathered(self.one, self.other))

    def test_papers_that_show_it(self):
        self.says(True, self.paper)
        self.says(True, [("part", 0, 1), ("part", 0, 0), ("high",), ("low",), ("low",)])
        self.says(True, [("part", 0, 0), ("high",), ("low",)])
        self.says(True, [("part", 0, 0), ("part", 1, -5), ("high",), ("high",), ("low",)])
        self.assertIs(True, is_apart(View(9, 4, []), View(9, 5, []), [("high",)]))
        self.assertIs(True, is_apart(View(9, 4, []), View(9, 5, []), [("rest", 2)]))
        self.assertIs(True, is_apart(View(9, 4, []), View(9, 5, []), [("rest", SIXTY)]))
        self.assertIs(True, is_apart(View(9, 5, []), View(9, 2, []), [("rest", 2)]))
        self.assertIs(False, is_apart(View(9, 5, []), View(9, 2, []), [("rest", 3)]))
        self.assertIs(False, is_apart(View(9, 4, []), View(9, 4, []), [("rest", 3)]))

    def test_an_ended_case_may_be_parted_in_a_paper_handed_in(self):
        self.says(True, [("part", 0, 0), ("high",), ("part", 0, 1), ("part", 1, -3), ("low",), ("low",), ("low",)])

    def test_rests(self):
        one, other = View(100, 0, [(5, 12)]), View(100, 9, [(4, 18)])
        self.assertEqual(([(18, -3, 0), (12, 0, 4)], 9), gathered(one, other))
        for m in [2, 6]:
            self.assertIs(True, is_apart(one, other, [("rest", m)]))
        for m in [3, 4, 12, 9, 36, 1, 0, -1, -2, -6, 5, 18]:
            self.assertIs(False, is_apart(one, other, [("rest", m)]))
        # With 18 settled at 0, 12 alone is left to be divided; with 12 settled at 0 it is out of reach.
        for m in [2, 4, 6, 12]:
            self.assertIs(True, is_apart(one, other, [("part", 0, -1), ("rest", 2), ("rest", m)]))
            self.assertIs(m < 7 and m != 4, is_apart(one, other, [("part", 0, -1), ("rest", m), ("rest", 2)]))
        self.assertIs(True, is_apart(one, other, [("part", 1, 0), ("high",), ("rest", 6)]))
        self.assertIs(True, is_apart(one, other, [("part", 1, 0), ("rest", 18), ("rest", 6)]))
        self.assertIs(False, is_apart(one, other, [("part", 1, 0), ("rest", 9), ("rest", 6)]))
        self.assertIs(False, is_apart(one, other, [("part", 0, -1), ("rest", 2), ("rest", 3)]))

    def test_steps_that_are_wrong(self):
        for at in range(len(self.paper)):
            for step in [
                ("part", 0, -1), ("part", 0, 2), ("part", 0, 3), ("part", 2, 0), ("part", -1, -5), ("part", -2, 0),
                ("part", 1, 0), ("part", 1, -11), ("rest", 2), ("rest", 1), ("rest", 0), ("rest", -1), ("rest", 30),
            ]:
                self.says(False, self.paper[:at] + [step] + self.paper[at + 1:])
            other = {"high": "low", "low": "high", "part": "low"}[self.paper[at][0]]
            self.says(False, self.paper[:at] + [(other,)] + self.paper[at + 1:])
            self.says(False, self.paper[:at] + self.paper[at + 1:])
            self.says(False, self.paper[:at])
        self.says(False, [("low",)])
        self.says(False, [("high",)])

    # The least sum or the greatest one is just the goal: that ends nothing.
    def test_sums_that_are_the_goal(self):
        point, row = View(30, 4, []), View(30, 4, [(3, 2)])
        for one, other in [(point, point), (point, row), (row, point), (View(30, 8, [(3, -2)]), row)]:
            for step in [("low",), ("high",), ("rest", 2), ("rest", 3)]:
                self.assertIs(False, is_apart(one, other, [step]))
        apart = View(30, 5, [])
        self.assertIs(True, is_apart(apart, point, [("low",)]))
        self.assertIs(True, is_apart(point, apart, [("high",)]))

    def test_no_case_left_for_a_step(self):
        for step in [("low",), ("high",), ("part", 0, 0), ("rest", 2)]:
            self.says(False, self.paper + [step])
        self.assertIs(False, is_apart(View(9, 4, []), View(9, 5, []), [("high",), ("high",)]))

    def test_cases_left(self):
        self.says(False, [])
        self.says(False, self.paper[:-1])
        self.says(False, [("part", 0, 0), ("high",)])
        self.assertIs(False, is_apart(View(9, 4, []), View(9, 5, []), []))

    def test_things_of_other_kinds_as_paper(self):
        for thing in NO_NUMBERS + [tuple(self.paper), {0: self.paper}, iter(self.paper), "high", 5, [self.paper]]:
            self.says(False, thing)

    def test_things_of_other_kinds_as_a_step(self):
        for at in range(len(self.paper)):
            step = self.paper[at]
            things = NO_NUMBERS + [list(step), step[:-1], step + (0,), step + (None,), step[0], [step], (step,), 5]
            things += [(thing,) + step[1:] for thing in NO_NUMBERS + [" low", "Low", "parted", 5]]
            if step[0] == "part":
                things += [("part", thing, step[2]) for thing in NO_NUMBERS]
                things += [("part", step[1], thing) for thing in NO_NUMBERS]
            for thing in things:
                self.says(False, self.paper[:at] + [thing] + self.paper[at + 1:])
        one, other = View(100, 0, [(5, 12)]), View(100, 9, [(4, 18)])
        for thing in NO_NUMBERS:
            self.assertIs(False, is_apart(one, other, [("rest", thing)]))
        self.assertIs(False, is_apart(one, other, [("rest", 2, 2)]))
        self.assertIs(False, is_apart(one, other, [("rest",)]))
        self.assertIs(False, is_apart(one, other, [("low", 2)]))
        self.assertIs(False, is_apart(View(9, 4, []), View(9, 5, []), [("high", Prickly())]))

    # A truth for a number would do if it were taken for one.
    def test_truths_for_numbers(self):
        self.says(False, [("part", False, 0), ("high",), ("low",)])
        self.says(False, [("part", 0, False), ("high",), ("low",)])

    def test_views_that_share_are_never_apart(self):
        rng = source(20)
        one, other = View(30, 0, [(5, 2)]), View(30, 8, [(3, 1)])
        steps = [("low",), ("high",), ("rest", 2), ("rest", 3)] + [("part", k, at) for k in (0, 1) for at in range(-3, 5)]
        for turn in range(3000):
            self.assertIs(False, is_apart(one, other, [rng.choice(steps) for k in range(rng.randint(0, 7))]))

    def test_unlike_rooms(self):
        for paper in [self.paper, [], None, 5]:
            self.refuse(NoPair, is_apart, self.one, View(101, 10, [(11, 1)]), paper)

    def test_the_paper_stays(self):
        kept = list(self.paper)
        self.says(True, self.paper)
        self.assertEqual(kept, self.paper)

    def test_arguments(self):
        self.signed((shares, "(one, other, most=1000)"), (is_apart, "(one, other, paper)"))


if __name__ == "__main__":
    unittest.main()
