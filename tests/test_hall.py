import unittest

from pacehall.chains import Chain
from pacehall.errors import Known, NoCells, NoDeed, NoMove, NoName, NoView
from pacehall.floors import whole
from pacehall.hall import Hall
from pacehall.moves import Fresh, Move, Pick, Slice, Spread
from pacehall.statements import Copy, Fill, Raise, Statement, Swap
from pacehall.views import View
from tests.helper import NO_NUMBERS, Case, cells_by_sum, draw_statement, draw_view_in, source

NO_NAMES = NO_NUMBERS + [
    "abcdefghi", "A", "aB", "a1", "1", "a ", " a", "a b", "a\n", "a_", "-", "\u00e4", "\u00df", "a" * 99, b"a", ["a"],
    ("a",), 5,
]
LONG = View(5, 2, [(4097, 0)])


class NamesTest(Case):

    def setUp(self):
        self.hall = Hall([1, 2, 3, 4, 5])

    def no_name(self, name, ask, *things):
        told = self.refuse(NoName, ask, *things)
        self.assertIs(name, told.name)

    def test_made_as_a_store(self):
        self.refuse(NoCells, Hall, [])
        self.too_many(4097, Hall, [0] * 4097)
        self.assertEqual([0] * 4096, Hall([0] * 4096).all_values())
        values = [1, 2]
        hall = Hall(values)
        values.clear()
        hall.all_values().clear()
        self.assertEqual([1, 2], hall.all_values())

    def test_call(self):
        for name in ["a", "z", "abcdefgh", "zzzzzzzz", "hall"]:
            self.assertIsNone(self.hall.call(name, View(5, 1, [(2, 2)])))
            self.assertEqual([1, 3], self.hall.view(name).cells())
            self.assertEqual([2, 4], self.hall.seen(name))
        self.assertEqual(["a", "z", "abcdefgh", "zzzzzzzz", "hall"], self.hall.names())

    def test_names_that_are_none(self):
        self.hall.call("a", whole([5]))
        for name in NO_NAMES:
            self.no_name(name, self.hall.call, name, whole([5]))
            self.no_name(name, self.hall.make, name, "a", Move())
            self.no_name(name, self.hall.make, "b", name, Move())
            self.no_name(name, self.hall.drop, name)
            self.no_name(name, self.hall.view, name)
            self.no_name(name, self.hall.seen, name)
        self.assertEqual(["a"], self.hall.names())

    def test_names_that_nothing_has(self):
        self.hall.call("a", whole([5]))
        for name in ["b", "aa", "abcdefgh"]:
            self.no_name(name, self.hall.drop, name)
            self.no_name(name, self.hall.view, name)
            self.no_name(name, self.hall.seen, name)
            self.no_name(name, self.hall.make, "c", name, Move())

    def test_known_ones(self):
        self.hall.call("a", whole([5]))
        told = self.refuse(Known, self.hall.call, "a", whole([5]))
        self.assertEqual("a", told.name)
        told = self.refuse(Known, self.hall.make, "a", "a", Move())
        self.assertEqual("a", told.name)

    def test_call_is_refused_in_order(self):
        self.hall.call("a", whole([5]))
        there = View(6, 2, [(4097, 0)])
        self.no_name("A", self.hall.call, "A", there)
        self.refuse(Known, self.hall.call, "a", there)
        self.refuse(NoView, self.hall.call, "b", there)
        self.refuse(NoView, self.hall.call, "b", View(4, 0, []))
        self.too_many(4097, self.hall.call, "b", LONG)
        self.assertEqual(["a"], self.hall.names())
        self.hall.call("b", View(5, 2, [(4096, 0)]))

    def test_make(self):
        self.hall.call("a", whole([5]))
        self.assertIsNone(self.hall.make("b", "a", Slice(0, None, None, -2)))
        self.assertEqual([5, 3, 1], self.hall.seen("b"))
        self.hall.make("c", "b", Chain([Pick(0, 0), Fresh(0)]))
        self.assertEqual([5], self.hall.seen("c"))
        self.assertEqual(["a", "b", "c"], self.hall.names())

    def test_make_is_refused_in_order(self):
        self.hall.call("a", whole([5]))
        long = Chain([Fresh(0), Spread(0, 4096)])
        self.no_name("A", self.hall.make, "A", "x", Pick(9, 9))
        self.refuse(Known, self.hall.make, "a", "x", Pick(9, 9))
        self.no_name("x", self.hall.make, "b", "x", Pick(9, 9))
        self.refuse(NoMove, self.hall.make, "b", "a", Pick(9, 9))
        self.too_many(5 * 4096, self.hall.make, "b", "a", long)
        self.refuse(NoMove, self.hall.make, "b", "a", Chain([long, Pick(9, 9)]))
        self.assertEqual(["a"], self.hall.names())

    def test_dropped_and_called_again(self):
        for name in ["a", "b", "c"]:
            self.hall.call(name, whole([5]))
        self.assertIsNone(self.hall.drop("b"))
        self.assertEqual(["a", "c"], self.hall.names())
        self.no_name("b", self.hall.view, "b")
        self.no_name("b", self.hall.drop, "b")
        self.hall.make("b", "a", Pick(0, 1))
        self.assertEqual(["a", "c", "b"], self.hall.names())
        self.hall.drop("a")
        self.hall.call("a", View(5, 4, []))
        self.assertEqual(["c", "b", "a"], self.hall.names())

    def test_what_was_made_stays_when_its_view_goes(self):
        self.hall.call("a", whole([5]))
        self.hall.make("b", "a", Slice(0, 3))
        self.hall.drop("a")
        self.assertEqual([4, 5], self.hall.seen("b"))

    def test_lists_are_the_askers_own(self):
        self.hall.call("a", whole([5]))
        self.hall.names().clear()
        self.hall.seen("a").clear()
        self.hall.all_values().clear()
        self.hall.do(Fill(whole([5]), 9)).clear()
        self.assertEqual(["a"], self.hall.names())
        self.assertEqual([9] * 5, self.hall.seen("a"))


class DoTest(Case):

    def setUp(self):
        self.hall = Hall([1, 2, 3, 4, 5])
        self.hall.call("all", whole([5]))
        self.hall.call("left", View(5, 0, [(2, 1)]))
        self.hall.call("right", View(5, 3, [(2, 1)]))

    def test_the_names_of_what_reads_otherwise(self):
        self.assertEqual(["all", "left"], self.hall.do(Fill(View(5, 0, []), 9)))
        self.assertEqual(["all"], self.hall.do(Fill(View(5, 2, []), 9)))
        self.assertEqual([], self.hall.do(Fill(View(5, 2, []), 9)))
        self.assertEqual([], self.hall.do(Statement()))
        self.assertEqual(["all", "left", "right"], self.hall.do(Swap(self.hall.view("left"), self.hall.view("right"))))
        self.assertEqual([4, 5, 9, 9, 2], self.hall.all_values())
        self.assertEqual(["all", "left"], self.hall.do(Raise(self.hall.view("left"), self.hall.view("right"))))
        self.assertEqual([13, 7, 9, 9, 2], self.hall.all_values())

    def test_in_the_order_in_which_they_were_called(self):
        self.hall.drop("all")
        self.hall.call("all", whole([5]))
        self.assertEqual(["left", "right", "all"], self.hall.do(Fill(whole([5]), 0)))
        self.assertEqual(["left", "right", "all"], self.hall.back())

    def test_no_names(self):
        hall = Hall([1, 2])
        self.assertEqual([], hall.do(Fill(whole([2]), 7)))
        self.assertEqual([7, 7], hall.all_values())
        self.assertEqual([], hall.back())
        self.assertEqual([1, 2], hall.all_values())

    def test_back(self):
        self.refuse(NoDeed, self.hall.back)
        self.hall.do(Fill(View(5, 0, []), 9))
        self.hall.do(Copy(self.hall.view("right"), self.hall.view("left")))
        self.hall.do(Statement())
        self.assertEqual([9, 2, 3, 9, 2], self.hall.all_values())
        self.assertEqual([], self.hall.back())
        self.assertEqual(["all", "right"], self.hall.back())
        self.assertEqual([9, 2, 3, 4, 5], self.hall.all_values())
        self.assertEqual(["all"], self.hall.do(Fill(View(5, 2, []), 7)))
        self.assertEqual(["all"], self.hall.back())
        self.assertEqual(["all", "left"], self.hall.back())
        self.assertEqual([1, 2, 3, 4, 5], self.hall.all_values())
        self.refuse(NoDeed, self.hall.back)

    def test_names_stay_as_they_are_by_now(self):
        self.hall.do(Fill(whole([5]), 0))
        self.hall.drop("left")
        self.hall.call("mid", View(5, 2, []))
        self.assertEqual(["all", "right", "mid"], self.hall.back())
        self.assertEqual(["all", "right", "mid"], self.hall.names())
        self.assertEqual([3], self.hall.seen("mid"))

    def test_refused_and_then_nothing_changes(self):
        self.hall.do(Fill(View(5, 0, []), 9))
        there = View(6, 0, [(2, 1)])
        for statement in [Fill(there, 1), Copy(there, there), Swap(there, there), Raise(there, there)]:
            self.refuse(NoView, self.hall.do, statement)
        self.refuse(NoView, self.hall.do, Fill(View(6, 2, [(4097, 0)]), 1))
        for statement in [Fill(LONG, 1), Copy(LONG, LONG), Swap(LONG, LONG), Raise(LONG, LONG)]:
            self.too_many(4097, self.hall.do, statement)
        self.assertEqual([9, 2, 3, 4, 5], self.hall.all_values())
        self.assertEqual(["all", "left"], self.hall.back())
        self.refuse(NoDeed, self.hall.back)

    def test_two_hundred(self):
        for number in range(200):
            self.assertEqual(["all", "left"], self.hall.do(Fill(View(5, 0, []), number + 100)))
        for number in reversed(range(199)):
            self.hall.back()
            self.assertEqual(number + 100, self.hall.all_values()[0])
        self.hall.back()
        self.assertEqual([1, 2, 3, 4, 5], self.hall.all_values())
        self.refuse(NoDeed, self.hall.back)

    def test_drawn(self):
        rng = source(34)
        for turn in range(40):
            values = [rng.randint(-3, 3) for cell in range(25)]
            hall = Hall(values)
            views = {name: draw_view_in(rng, 25, None, range(-3, 4)) for name in ["a", "b", "c", "d"]}
            for name, view in views.items():
                hall.call(name, view)
            past = []
            for step in range(25):
                before = {name: hall.seen(name) for name in hall.names()}
                if past and rng.random() < 0.4:
                    told = hall.back()
                    self.assertEqual(past.pop(), hall.all_values())
                else:
                    past.append(hall.all_values())
                    told = hall.do(draw_statement(rng, 25))
                after = {name: [hall.all_values()[cell] for cell in cells_by_sum(views[name])] for name in before}
                self.assertEqual([name for name in hall.names() if before[name] != after[name]], told)

    def test_two_halls_beside_one_another(self):
        other = Hall([1, 2, 3, 4, 5])
        self.assertEqual([], other.names())
        other.do(Fill(whole([5]), 0))
        self.assertEqual([1, 2, 3, 4, 5], self.hall.all_values())
        self.refuse(NoDeed, self.hall.back)

    def test_arguments(self):
        self.signed(
            (Hall, "(values)"), (Hall.call, "(self, name, view)"), (Hall.make, "(self, name, of, move)"),
            (Hall.drop, "(self, name)"), (Hall.view, "(self, name)"), (Hall.seen, "(self, name)"),
            (Hall.names, "(self)"), (Hall.all_values, "(self)"), (Hall.do, "(self, statement)"),
            (Hall.back, "(self)"),
        )


if __name__ == "__main__":
    unittest.main()
