import unittest

from pacehall.errors import NoCount, NoPair, NoView, TooMany
from pacehall.floors import whole
from pacehall.moves import Slice
from pacehall.statements import Copy, Fill, Raise, Statement, Swap, clash
from pacehall.stores import Store
from pacehall.views import View
from tests.helper import SIXTY, Case, cells_by_sum, draw_statement, source

LONG = View(5, 2, [(4097, 0)])
PAIRS = [Copy, Swap, Raise]


# What a statement does, by the document's words, on a list of values.
def done_by_hand(statement, values):
    values = list(values)

    def read(view):
        return [values[cell] for cell in cells_by_sum(view)]

    def put(view, new):
        for cell, value in zip(cells_by_sum(view), new):
            values[cell] = value

    if isinstance(statement, Fill):
        put(statement.to, [statement.value] * statement.to.count())
    elif isinstance(statement, Copy):
        put(statement.to, read(statement.source))
    elif isinstance(statement, Raise):
        put(statement.to, [a + b for a, b in zip(read(statement.to), read(statement.source))])
    elif isinstance(statement, Swap):
        one, other = read(statement.one), read(statement.other)
        put(statement.one, other)
        put(statement.other, one)
    return values


def clash_by_hand(one, other):
    def cells(views):
        return {cell for view in views for cell in cells_by_sum(view)}

    mine, yours = cells(one.writes()), cells(other.writes())
    return bool(mine & (yours | cells(other.reads())) or yours & (mine | cells(one.reads())))


class DoneTest(Case):

    def done(self, statement, values):
        store = Store(values)
        self.assertIsNone(statement.run(store))
        self.assertEqual(done_by_hand(statement, values), store.all_values())
        return store.all_values()

    def test_nothing(self):
        self.assertEqual([1, 2], self.done(Statement(), [1, 2]))
        self.assertEqual(([], []), (Statement().writes(), Statement().reads()))

    def test_fill(self):
        self.assertEqual([1, 9, 3, 9, 5], self.done(Fill(View(5, 1, [(2, 2)]), 9), [1, 2, 3, 4, 5]))
        self.assertEqual([SIXTY, 2], self.done(Fill(View(2, 0, [(3, 0)]), SIXTY), [1, 2]))

    def test_copy(self):
        self.assertEqual([1, 1, 2, 3, 4], self.done(Copy(View(5, 1, [(4, 1)]), View(5, 0, [(4, 1)])), [1, 2, 3, 4, 5]))

    def test_swap(self):
        self.assertEqual([4, 5, 3, 1, 2], self.done(Swap(View(5, 0, [(2, 1)]), View(5, 3, [(2, 1)])), [1, 2, 3, 4, 5]))

    def test_swap_of_views_that_overlap(self):
        to, other = View(5, 0, [(3, 1)]), View(5, 1, [(3, 1)])
        self.assertEqual([2, 1, 2, 3, 5], self.done(Swap(to, other), [1, 2, 3, 4, 5]))
        self.assertEqual([2, 3, 4, 3, 5], self.done(Swap(other, to), [1, 2, 3, 4, 5]))

    def test_swap_of_a_cell_twice(self):
        self.assertEqual([3, 1, 1], self.done(Swap(View(3, 0, [(2, 0)]), View(3, 1, [(2, 1)])), [1, 2, 3]))

    def test_raise(self):
        to, other = View(5, 0, [(2, 1)]), View(5, 3, [(2, 1)])
        self.assertEqual([5, 7, 3, 4, 5], self.done(Raise(to, other), [1, 2, 3, 4, 5]))
        self.assertEqual([2, 4, 3, 4, 5], self.done(Raise(to, to), [1, 2, 3, 4, 5]))

    def test_raise_of_views_that_overlap_or_have_a_cell_twice(self):
        self.assertEqual([1, 3, 5, 7, 5], self.done(Raise(View(5, 1, [(3, 1)]), View(5, 0, [(3, 1)])), [1, 2, 3, 4, 5]))
        self.assertEqual([6, 2, 3, 4, 5], self.done(Raise(View(5, 0, [(3, 0)]), View(5, 2, [(3, 1)])), [1, 2, 3, 4, 5]))

    def test_sizes_need_not_be_alike(self):
        for kind in PAIRS:
            self.done(kind(View(12, 0, [(6, 1)]), View(12, 6, [(2, 3), (3, 1)])), list(range(12)))

    def test_drawn(self):
        rng = source(31)
        for turn in range(500):
            values = [rng.randint(-99, 99) for cell in range(30)]
            self.done(draw_statement(rng, 30), values)

    def test_writes_and_reads(self):
        to, other = View(5, 0, [(2, 1)]), View(5, 3, [(2, 1)])
        for statement, writes, reads in [
            (Fill(to, 3), [to], []), (Copy(to, other), [to], [other]), (Swap(to, other), [to, other], [to, other]),
            (Raise(to, other), [to], [to, other]), (Statement(), [], []),
        ]:
            for ask, wanted in [(statement.writes, writes), (statement.reads, reads)]:
                self.assertEqual([(v.room, v.first, v.axes) for v in wanted], [(v.room, v.first, v.axes) for v in ask()])
                ask().append(to)
                ask().clear()
                self.assertEqual(len(wanted), len(ask()))
            self.assertIsInstance(statement, Statement)


class RefusedTest(Case):

    def test_when_made(self):
        good = View(5, 0, [(2, 1)])
        for kind in PAIRS:
            self.refuse(NoPair, kind, good, View(6, 0, [(2, 1)]))
            self.refuse(NoPair, kind, good, View(6, 0, [(3, 1)]))
            self.refuse(NoCount, kind, good, View(5, 0, [(3, 1)]))
            self.refuse(NoCount, kind, good, LONG)
            self.refuse(NoCount, kind, LONG, good)
            self.assertIsInstance(kind(LONG, LONG), Statement)
        self.assertIsInstance(Fill(LONG, 1), Statement)

    def test_when_done(self):
        good = View(5, 0, [(2, 1)])
        for statement, long in [(Fill(good, 9), Fill(LONG, 9))] + [
            (kind(good, View(5, 1, [(2, 2)])), kind(LONG, LONG)) for kind in PAIRS
        ]:
            for many in [4, 6]:
                store = Store(list(range(many)))
                self.refuse(NoView, statement.run, store)
                self.refuse(NoView, long.run, store)
                self.assertEqual(list(range(many)), store.all_values())
            store = Store([1, 2, 3, 4, 5])
            self.too_many(4097, long.run, store)
            self.assertEqual([1, 2, 3, 4, 5], store.all_values())
        Statement().run(Store([1]))


class ClashTest(Case):

    def check(self, wanted, one, other):
        self.assertIs(wanted, clash(one, other))
        self.assertIs(wanted, clash(other, one))

    def test_by_writing_and_by_reading(self):
        left, right, middle = View(6, 0, [(2, 1)]), View(6, 4, [(2, 1)]), View(6, 1, [(2, 1)])
        self.check(False, Fill(left, 1), Fill(right, 1))
        self.check(True, Fill(left, 1), Fill(middle, 1))
        self.check(True, Fill(left, 1), Copy(right, middle))
        self.check(True, Fill(left, 1), Copy(middle, right))
        self.check(False, Copy(left, right), Copy(View(6, 2, [(2, 1)]), right))
        self.check(True, Copy(left, right), Copy(right, left))
        self.check(True, Swap(left, right), Copy(View(6, 2, [(2, 1)]), right))
        self.check(True, Raise(left, right), Fill(right, 1))
        self.check(False, Raise(left, right), Copy(View(6, 2, [(2, 1)]), right))

    def test_reading_alone_does_not_clash(self):
        read = View(6, 0, [(6, 0)])
        self.check(False, Copy(View(6, 5, [(6, 0)]), read), Copy(View(6, 4, [(6, 0)]), read))

    def test_with_itself(self):
        view = View(6, 0, [(2, 1)])
        for statement in [Fill(view, 1), Copy(view, view), Swap(view, view), Raise(view, view)]:
            self.assertIs(True, clash(statement, statement))
            self.check(False, Statement(), statement)
        nothing = Statement()
        self.assertIs(False, clash(nothing, nothing))

    def test_drawn(self):
        rng = source(32)
        seen = {True: 0, False: 0}
        for turn in range(600):
            one, other = draw_statement(rng, 40), draw_statement(rng, 40)
            wanted = clash_by_hand(one, other)
            self.check(wanted, one, other)
            seen[wanted] += 1
        self.assertGreater(min(seen.values()), 60)

    def test_refused_in_order(self):
        here, there = View(5, 0, [(2, 1)]), View(6, 0, [(2, 1)])
        self.refuse(NoPair, clash, Fill(here, 1), Fill(there, 1))
        self.refuse(NoPair, clash, Copy(here, here), Swap(there, there))
        self.refuse(NoPair, clash, Fill(LONG, 1), Fill(there, 1))
        self.refuse(NoPair, clash, Fill(there, 1), Fill(LONG, 1))
        self.too_many(4097, clash, Fill(LONG, 1), Fill(here, 1))
        self.too_many(4097, clash, Fill(here, 1), Raise(LONG, LONG))
        self.too_many(4097, clash, Statement(), Fill(LONG, 1))
        self.too_many(4097, clash, Fill(LONG, 1), Statement())
        longer = View(5, 2, [(5000, 0)])
        self.assertIn(self.refuse(TooMany, clash, Fill(LONG, 1), Fill(longer, 1)).number, [4097, 5000])
        self.assertIs(True, clash(Fill(View(5, 2, [(4096, 0)]), 1), Fill(View(5, 2, []), 1)))
        self.assertIs(False, clash(Statement(), Fill(there, 1)))

    def test_great_ones(self):
        view = whole([64, 64])
        self.check(False, Fill(Slice(0, None, None, 2).on(view), 1), Fill(Slice(0, 1, None, 2).on(view), 1))
        self.check(True, Fill(Slice(0, None, None, 2).on(view), 1), Fill(Slice(1, 1, None, 2).on(view), 1))

    def test_arguments(self):
        self.signed(
            (Statement, "()"), (Fill, "(to, value)"), (Copy, "(to, source)"), (Swap, "(one, other)"),
            (Raise, "(to, source)"), (Statement.writes, "(self)"), (Statement.reads, "(self)"),
            (Statement.run, "(self, store)"), (clash, "(one, other)"),
        )


if __name__ == "__main__":
    unittest.main()
