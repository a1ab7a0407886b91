"""The promise over the whole program, on drawn views that came of moves."""

import importlib
import math
import unittest

from pacehall.chains import Chain, move_of
from pacehall.desk import Desk
from pacehall.errors import NoShape, PaceError, Twice
from pacehall.floors import has_twice, whole
from pacehall.hall import Hall
from pacehall.loops import looped
from pacehall.moves import Slice
from pacehall.orders import bars, keeps, loop_order
from pacehall.plain import parted_at, plain, reads_same
from pacehall.rounds import chain, rounds, run_all
from pacehall.rows import rows_for, run_rows
from pacehall.shapes import is_fault, shaped
from pacehall.sharing import is_apart, shares
from pacehall.sources import rings, sources
from pacehall.statements import Copy, Fill, Raise, Swap, clash
from pacehall.stores import Store
from pacehall.terms import gathered
from pacehall.texts import read_move, show_move
from tests.helper import Case, all_orders, all_places, cells_by_sum, draw_move, fitted, source

INTERFACE = {
    "errors": "PaceError NoPlace NoStep NoCells NoView NoMove NoCount NoPair NoMost NoOrder NoDeed NoRow TooMany NoShape "
              "Twice NoName Known",
    "numbers": "is_whole divisor divisor_of", "places": "count_of number_of place_at places paces_of", "spans": "span",
    "views": "View", "floors": "whole same_view has_twice", "moves": "Move Slice Pick Turn Fresh Spread",
    "cuts": "Cut Window Diagonal", "chains": "Chain move_of", "plain": "plain reads_same parted_at",
    "shapes": "shaped is_fault", "terms": "gathered", "cases": "least_sum greatest_sum rest_of is_ended",
    "sharing": "shares is_apart", "stores": "Store", "sources": "sources rings", "rows": "rows_for run_rows",
    "pairs": "bound_pairs", "orders": "loop_order keeps bars", "loops": "walk_of looped",
    "statements": "Statement Fill Copy Swap Raise clash", "rounds": "rounds chain run_all", "hall": "Hall",
    "texts": "read_move show_move", "desk": "Desk",
}


# A view of a floor through some moves, and the cell by each of its places, looked up move by move by the rows alone.
def draw_moved(rng, sizes):
    reached, moves, ahead = list(sizes), [], []
    for step in range(rng.randint(0, 5)):
        move = draw_move(rng, reached)
        found = fitted(move.told(), reached)
        if found is not None and math.prod(found[0]) <= 60:
            moves.append(move)
            ahead.append(found[1])
            reached = found[0]
    cells = []
    for place in all_places(reached):
        for step in reversed(ahead):
            place = step(place)
        cells.append(whole(sizes).cell(place))
    return moves, reached, cells


class PromiseTest(Case):

    # Everything of the interface is to be there under its name, defined in the file that is named.
    def test_interface(self):
        for name, words in INTERFACE.items():
            module = importlib.import_module("pacehall." + name)
            for word in words.split():
                self.assertEqual("pacehall." + name, getattr(module, word).__module__)

    def test_views_that_come_of_moves(self):
        rng = source(40)
        for turn in range(500):
            sizes = [rng.randint(1, 4) for axis in range(rng.randint(0, 3))]
            moves, reached, cells = draw_moved(rng, sizes)
            floor = whole(sizes)
            view = floor
            for move in moves:
                view = move.on(view)
            self.assertEqual((reached, cells), (view.sizes(), view.cells()))
            for way in [Chain(moves), move_of(Chain(moves).told())]:
                self.assertEqual((reached, cells), (way.on(floor).sizes(), way.on(floor).cells()))
            if 2 <= len(moves):
                self.assertEqual(cells, read_move(show_move(Chain(moves)).split(" ")).on(floor).cells())

    def test_other_sizes(self):
        rng = source(41)
        seen = {True: 0, False: 0}
        for turn in range(400):
            sizes = [rng.choice([1, 2, 3, 4, 6]) for axis in range(rng.randint(0, 3))]
            moves, reached, cells = draw_moved(rng, sizes)
            view = Chain(moves).on(whole(sizes))
            for other in [[len(cells)], reached[::-1], reached + [1], [2, len(cells) // 2], [len(cells) // 3, 3]]:
                if math.prod(other) != len(cells):
                    continue
                try:
                    made = shaped(view, other)
                    self.assertEqual((other, cells), (made.sizes(), made.cells()))
                    self.assertTrue(reads_same(view, made))
                    self.assertIsNone(parted_at(view, made))
                    self.assertEqual(plain(view), plain(made))
                    seen[True] += 1
                except NoShape as refusal:
                    self.assertTrue(is_fault(view, other, refusal.place, refusal.axis))
                    # Whatever first steps a view of these sizes takes, it would part from this one.
                    paces = [math.prod(other[axis + 1:]) for axis in range(len(other))]
                    told = [(cells[pace] - cells[0]) if size > 1 else 0 for size, pace in zip(other, paces)]
                    by_paces = [cells[0] + sum(a * b for a, b in zip(place, told)) for place in all_places(other)]
                    self.assertNotEqual(cells, by_paces)
                    seen[False] += 1
        self.assertGreater(min(seen.values()), 60)

    def test_shared_cells(self):
        rng = source(42)
        seen = {"shared": 0, "apart": 0}
        for turn in range(800):
            sizes = [rng.randint(2, 5) for axis in range(rng.randint(1, 3))]
            one, other = [Chain(draw_moved(rng, sizes)[0]).on(whole(sizes)) for side in range(2)]
            terms, goal = gathered(one, other)
            enough = 2 * math.prod(high - low + 1 for times, low, high in terms) - 1
            told = shares(one, other, min(enough, 100000))
            both = set(cells_by_sum(one)) & set(cells_by_sum(other))
            if told[0] == "shared":
                self.assertEqual(one.cell(told[1]), other.cell(told[2]))
            elif told[0] == "apart":
                self.assertEqual(set(), both)
                self.assertTrue(is_apart(one, other, told[1]))
            self.assertTrue(enough > 100000 or told[0] == ("shared" if both else "apart"))
            seen[told[0]] += 1
        self.assertGreater(min(seen.values()), 30)

    def test_rows_and_loops(self):
        rng = source(43)
        seen = {"loops": 0, "none": 0, "twice": 0}
        for turn in range(500):
            sizes = [rng.randint(2, 4) for axis in range(rng.randint(1, 2))]
            to, origin = [Chain(draw_moved(rng, sizes)[0]).on(whole(sizes)) for side in range(2)]
            if to.count() != origin.count():
                origin = Slice(0, None, None, -1).on(to) if to.axes else to
            values = [rng.randint(-99, 99) for cell in range(to.room)]
            copied, rowed = Store(values), Store(values)
            copied.copied(to, origin)
            found = sources(to, origin)
            rows = rows_for(found)
            run_rows(rowed, rows)
            self.assertEqual(copied.all_values(), rowed.all_values())
            bare = sum(1 for cells, bare in rings(found) if bare)
            self.assertEqual(sum(1 for cell in found if found[cell] != cell) + bare, len(rows))
            if to.sizes() != origin.sizes():
                continue
            if has_twice(to) is not None:
                self.refuse(Twice, loop_order, to, origin)
                seen["twice"] += 1
                continue
            told = loop_order(to, origin)
            seen[told[0]] += 1
            orders = [order for order in all_orders(len(to.axes)) if len(to.axes) < 4]
            kept = [order for order in orders if keeps(to, origin, order)]
            for order in orders:
                store = Store(list(range(1, to.room + 1)))
                wanted = Store(list(range(1, to.room + 1)))
                looped(store, to, origin, order)
                wanted.copied(to, origin)
                self.assertEqual(order in kept, store.all_values() == wanted.all_values())
            if told[0] == "loops":
                self.assertTrue(keeps(to, origin, told[1]))
            else:
                self.assertTrue(bars(to, origin, told[1]))
                self.assertEqual([], kept)
        self.assertGreater(min(seen.values()), 20)

    def test_rounds(self):
        rng = source(44)
        for turn in range(150):
            sizes = [rng.randint(2, 5) for axis in range(2)]
            views = [Chain(draw_moved(rng, sizes)[0]).on(whole(sizes)) for k in range(6)]
            statements = []
            for k in range(rng.randint(0, 12)):
                one, other = rng.choice(views), rng.choice(views)
                kinds = [lambda: Fill(one, rng.randint(-9, 9))]
                if one.count() == other.count():
                    kinds += [lambda: Copy(one, other), lambda: Swap(one, other), lambda: Raise(one, other)]
                statements.append(rng.choice(kinds)())
            told = rounds(statements)
            self.assertEqual(list(range(len(statements))), sorted(number for numbers in told for number in numbers))
            links = chain(statements)
            self.assertEqual(len(told), len(links))
            for one, other in zip(links, links[1:]):
                self.assertTrue(one < other and clash(statements[one], statements[other]))
            values = [rng.randint(-99, 99) for cell in range(math.prod(sizes))]
            plainly, mixed, all_done, hall = Store(values), Store(values), Store(values), Hall(values)
            for statement in statements:
                statement.run(plainly)
                hall.do(statement)
            for numbers in told:
                for number in rng.sample(numbers, len(numbers)):
                    statements[number].run(mixed)
            run_all(all_done, statements)
            for other in [mixed, all_done, hall]:
                self.assertEqual(plainly.all_values(), other.all_values())
            for statement in statements:
                hall.back()
            self.assertEqual(values, hall.all_values())

    def answer(self, desk, row):
        try:
            return desk.say(row)
        except PaceError as refusal:
            return type(refusal), vars(refusal)

    # The same rows say the same, on whichever desk.
    def test_asked_again(self):
        rng = source(45)
        desk, other = Desk(), Desk()
        rows = ["floor " + " ".join(str(number) for number in range(24)), "whole a 2 3 4"]
        told = [self.answer(desk, row) for row in rows]
        for turn in range(300):
            names = desk.say("names").split(" ")
            one, two = rng.choice(names), rng.choice(names)
            new = "".join(rng.choice("abc") for k in range(3))
            rows.append(rng.choice([
                f"view {new} {one} {show_move(draw_move(rng, [2, 3, 4]))}", f"view {new} {one} slice 0 - - -1",
                f"share {one} {two}", f"rows {one} {two}", f"order {one} {two}", f"copy {one} {two}", f"read {one}",
                "names", "back", f"plain {one}", f"fill {one} {turn}", f"swap {one} {two}", f"raise {one} {two}",
            ]))
            told.append(self.answer(desk, rows[-1]))
        self.assertEqual(told, [self.answer(other, row) for row in rows])
        self.assertGreater(len([answer for answer in told if isinstance(answer, str)]), 150)


if __name__ == "__main__":
    unittest.main()
