import unittest

from pacehall.errors import NoPair, NoView
from pacehall.rounds import chain, rounds, run_all
from pacehall.statements import Copy, Fill, Raise, Statement, Swap, clash
from pacehall.stores import Store
from pacehall.views import View
from tests.helper import Case, draw_statement, source


def cell(at, room=9):
    return View(room, at, [])


# The document's words: behind the greatest round of those ahead with which it clashes.
def dealt_by_hand(statements):
    at = []
    for number, statement in enumerate(statements):
        clashing = [at[other] for other in range(number) if clash(statements[other], statement)]
        at.append(max(clashing, default=-1) + 1)
    return [[number for number, there in enumerate(at) if there == here] for here in range(max(at, default=-1) + 1)]


class RoundsTest(Case):

    def check(self, statements):
        kept = list(statements)
        told = rounds(statements)
        self.assertEqual(dealt_by_hand(statements), told)
        links = chain(statements)
        self.assertIs(list, type(links))
        self.assertEqual(sorted(set(links)), links)
        self.assertEqual(len(told), len(links))
        for number, numbers in zip(links, told):
            self.assertIn(number, numbers)
        for one, other in zip(links, links[1:]):
            self.assertTrue(clash(statements[one], statements[other]))
        self.assertEqual(kept, statements)
        return told

    def test_none(self):
        self.assertEqual(([], []), (rounds([]), chain([])))
        store = Store([1])
        self.assertIsNone(run_all(store, []))
        self.assertEqual([1], store.all_values())

    def test_by_hand(self):
        statements = [
            Fill(cell(0), 1), Fill(cell(1), 2), Copy(cell(2), cell(0)), Fill(cell(0), 3), Statement(),
            Copy(cell(3), cell(1)), Swap(cell(1), cell(3)), Raise(cell(4), cell(4)),
        ]
        self.assertEqual([[0, 1, 4, 7], [2, 5], [3, 6]], self.check(statements))

    def test_behind_the_greatest_of_all(self):
        # The last one clashes with round 2 through a cell that it reads, with round 0 through one that it writes.
        statements = [Fill(cell(0), 1), Fill(cell(0), 2), Fill(cell(0), 3), Fill(cell(5), 1), Copy(cell(5), cell(0))]
        self.assertEqual([[0, 3], [1], [2], [4]], self.check(statements))

    # A reader of a late round is followed by one of an early round; who writes then comes behind both.
    def test_readers_of_unlike_rounds(self):
        statements = [
            Fill(cell(1), 1), Fill(cell(1), 2), Raise(cell(1), cell(0)), Copy(cell(2), cell(0)), Fill(cell(0), 5),
        ]
        self.assertEqual([[0, 3], [1], [2], [4]], self.check(statements))

    def test_all_clash_and_none_do(self):
        self.assertEqual([[k] for k in range(60)], self.check([Fill(cell(0), k) for k in range(60)]))
        self.assertEqual([list(range(60))], self.check([Fill(cell(k, 60), k) for k in range(60)]))
        self.assertEqual([list(range(60))], self.check([Statement()] * 60))

    def test_drawn(self):
        rng = source(33)
        for turn in range(150):
            statements = [draw_statement(rng, 40) for k in range(rng.choice([1, 2, 5, 9, 20]))]
            told = self.check(statements)
            values = [rng.randint(-99, 99) for at in range(40)]
            plain, mixed, rounded = Store(values), Store(values), Store(values)
            for statement in statements:
                statement.run(plain)
            for numbers in told:
                for number in rng.sample(numbers, len(numbers)):
                    statements[number].run(mixed)
            self.assertIsNone(run_all(rounded, statements))
            self.assertEqual(plain.all_values(), mixed.all_values())
            self.assertEqual(plain.all_values(), rounded.all_values())

    def test_lists_are_the_askers_own(self):
        statements = [Fill(cell(0), 1), Fill(cell(0), 2)]
        rounds(statements)[0].clear()
        rounds(statements).clear()
        chain(statements).clear()
        self.assertEqual(([[0], [1]], [0, 1]), (rounds(statements), chain(statements)))

    def test_great_ones(self):
        room = 4096
        rows = [View(room, 64 * k, [(64, 1)]) for k in range(64)]
        statements = [Copy(rows[k + 1], rows[k]) for k in range(59)]
        self.assertEqual([[k] for k in range(59)], rounds(statements))
        full = View(room, 0, [(4096, 1)])
        self.assertEqual([[k] for k in range(60)], rounds([Swap(full, full)] * 60))


class NotedStatement(Statement):

    def __init__(self, number, noted, view):
        self.number, self.noted, self.view = number, noted, view

    def writes(self):
        return [self.view]

    def run(self, store):
        self.noted.append(self.number)


class RunAllTest(Case):

    def test_round_by_round_by_rising_numbers(self):
        noted = []
        views = [cell(0), cell(0), cell(1), cell(0), cell(1), cell(2)]
        run_all(Store([0] * 9), [NotedStatement(k, noted, view) for k, view in enumerate(views)])
        self.assertEqual([0, 2, 5, 1, 4, 3], noted)


class RefusedTest(Case):

    def asks(self):
        store = Store([1, 2, 3, 4, 5])
        return store, [rounds, chain, lambda statements: run_all(store, statements)]

    def test_in_order(self):
        store, asks = self.asks()
        good, long, there = Fill(cell(0, 5), 9), Fill(View(5, 2, [(4097, 0)]), 9), Fill(cell(0, 6), 9)
        for ask in asks:
            self.too_many(61, ask, [good] * 61)
            self.too_many(61, ask, [good] * 59 + [there, long])
            self.too_many(99, ask, [Statement()] * 99)
            self.refuse(NoPair, ask, [good, Statement(), there])
            self.refuse(NoPair, ask, [good, long, there])
            self.refuse(NoPair, ask, [there, long])
            self.too_many(4097, ask, [good, Statement(), long])
            self.too_many(4097, ask, [long])
        self.assertEqual([1, 2, 3, 4, 5], store.all_values())

    def test_another_room_than_the_stores(self):
        store, asks = self.asks()
        there = Fill(cell(0, 6), 9)
        self.refuse(NoView, run_all, store, [there])
        self.refuse(NoView, run_all, store, [Statement(), there, there])
        self.too_many(4097, run_all, store, [Fill(View(6, 2, [(4097, 0)]), 9)])
        self.refuse(NoPair, run_all, store, [there, Fill(cell(0, 5), 9)])
        self.refuse(NoPair, run_all, store, [Fill(cell(0, 5), 9), there])
        self.assertEqual([1, 2, 3, 4, 5], store.all_values())
        run_all(store, [Statement()])

    def test_arguments(self):
        self.signed((rounds, "(statements)"), (chain, "(statements)"), (run_all, "(store, statements)"))


if __name__ == "__main__":
    unittest.main()
