import copy
import unittest

from pacehall.chains import Chain, move_of
from pacehall.cuts import Cut, Diagonal, Window
from pacehall.errors import NoMove
from pacehall.floors import same_view, whole
from pacehall.moves import Fresh, Move, Pick, Slice, Spread, Turn
from tests.helper import NO_NUMBERS, SIXTY, Case, MoveCase, Prickly, draw_move, draw_sizes, draw_view, fitted, source

EACH = [
    (Move(), ("stay",)), (Slice(1, 2, None, -3), ("slice", 1, 2, None, -3)),
    (Slice(0), ("slice", 0, None, None, None)), (Slice(0, 1, 2, 3), ("slice", 0, 1, 2, 3)),
    (Pick(2, -1), ("pick", 2, -1)), (Turn([1, 0, 2]), ("turn", [1, 0, 2])), (Turn([]), ("turn", [])),
    (Turn([5, -5, 5]), ("turn", [5, -5, 5])), (Fresh(3), ("fresh", 3)), (Spread(0, 7), ("spread", 0, 7)),
    (Cut(1, 4), ("cut", 1, 4)), (Window(0, 2), ("window", 0, 2)), (Diagonal(2, 0), ("diagonal", 2, 0)),
    (Pick(-SIXTY, SIXTY), ("pick", -SIXTY, SIXTY)), (Chain([]), ("chain", [])),
    (Chain([Move(), Chain([Turn([0])])]), ("chain", [("stay",), ("chain", [("turn", [0])])])),
]


# One within another, so many deep.
def nested(told, deep):
    for turn in range(deep):
        told = ("chain", [told])
    return told


def one_by_one(moves, sizes, place):
    reached = [sizes]
    for move in moves:
        reached.append(move.sizes_of(reached[-1]))
    for move, there in zip(reversed(moves), reversed(reached[:-1])):
        place = move.place_of(there, place)
    return reached[-1], place


class ChainTest(MoveCase):

    def test_a_row_by_hand(self):
        move = Chain([Slice(0, 1), Cut(1, 2), Turn([2, 0, 1])])
        self.assertEqual([2, 3, 2], move.sizes_of([4, 4]))
        self.assertEqual((3, 3), move.place_of([4, 4], (1, 2, 1)))
        self.assertEqual([4, 6, 8, 10, 12, 14, 5, 7, 9, 11, 13, 15], move.on(whole([4, 4])).cells())
        self.assertEqual(("chain", [("slice", 0, 1, None, None), ("cut", 1, 2), ("turn", [2, 0, 1])]), move.told())

    def test_the_first_one_is_done_first(self):
        self.assertEqual([3], Chain([Pick(0, 1), Slice(0, 1)]).sizes_of([9, 4]))
        self.fits(Chain([Pick(0, 1), Slice(0, 1)]), [9, 4])
        self.unfit(Chain([Pick(0, 1), Pick(0, 1), Pick(0, 1)]), [9, 4])

    def test_none_and_one(self):
        for sizes in [[], [3], [2, 3, 4]]:
            self.fits(Chain([]), sizes)
            self.fits(Chain([Move()]), sizes)
        self.fits(Chain([Turn([1, 0])]), [2, 3])
        self.unfit(Chain([Turn([1, 0])]), [2])
        kept = [2, 3]
        Chain([]).sizes_of(kept).append(9)
        self.assertEqual([2, 3], kept)

    def test_forty(self):
        self.fits(Chain([Turn([1, 2, 0])] * 40), [2, 3, 4])
        self.fits(Chain([Fresh(0), Pick(0, 0)] * 20), [2, 3])
        self.fits(Chain([Slice(0, 1)] * 4 + [Move()] * 36), [5])
        self.unfit(Chain([Slice(0, 1)] * 40), [40])
        self.fits(Chain([Slice(0, 1)] * 40), [41])

    def test_within_one_another(self):
        inner = Chain([Turn([1, 0]), Chain([Slice(0, None, None, -1), Chain([Pick(0, -1), Chain([])]), Fresh(1)])])
        self.fits(inner, [2, 3])
        self.fits(Chain([inner, Spread(1, 4)]), [3, 2])
        self.unfit(Chain([inner, Spread(0, 4)]), [3, 2])
        self.unfit(inner, [3])

    def test_one_that_does_not_fit(self):
        good = [Fresh(0), Turn([2, 1, 0]), Move(), Fresh(3)]
        self.fits(Chain(good), [2, 3])
        for bad in [Pick(4, 0), Slice(0, 9), Turn([0]), Fresh(9), Spread(0, 0), Cut(0, 7), Window(0, 9), Diagonal(0, 0)]:
            for at in [0, 2, 4]:
                self.unfit(Chain(good[:at] + [bad] + good[at:]), [2, 3])
                self.unfit(Chain([Chain(good[:at]), Chain([bad]), Chain(good[at:])]), [2, 3])

    def test_a_ninth_axis_by_then(self):
        self.fits(Chain([Fresh(0)] * 5), [1, 2, 1])
        self.unfit(Chain([Fresh(0)] * 6), [1, 2, 1])
        self.unfit(Chain([Fresh(0)] * 6 + [Pick(0, 0)]), [1, 2, 1])

    def test_the_moves_one_by_one(self):
        rng = source(5)
        fits = 0
        for turn in range(300):
            sizes = draw_sizes(rng, 3, 4)
            moves = []
            reached = sizes
            for step in range(rng.randint(0, 5)):
                moves.append(draw_move(rng, reached))
                found = fitted(moves[-1].told(), reached)
                reached = reached if found is None else found[0]
            chain = Chain(moves)
            self.asked(chain, sizes)
            if fitted(chain.told(), sizes) is None:
                continue
            fits += 1
            view = draw_view(rng, sizes)
            made = view
            for move in moves:
                made = move.on(made)
            self.assertTrue(same_view(made, chain.on(view)))
            place = tuple(rng.randrange(size) for size in made.sizes())
            self.assertEqual(one_by_one(moves, sizes, place), (chain.sizes_of(sizes), chain.place_of(sizes, place)))
        self.assertGreater(fits, 100)

    def test_the_list_is_changed_behind_the_call(self):
        moves = [Pick(0, 1)]
        chain = Chain(moves)
        moves.append(Pick(0, 0))
        moves[0] = Move()
        self.assertEqual(("chain", [("pick", 0, 1)]), chain.told())
        self.assertEqual([3], chain.sizes_of([2, 3]))
        chain.told()[1].append(("stay",))
        self.assertEqual(("chain", [("pick", 0, 1)]), chain.told())

    def test_stands_under_move(self):
        self.assertIsInstance(Chain([]), Move)


class MoveOfTest(Case):

    def test_each_there_and_back(self):
        for move, told in EACH:
            self.assertEqual(told, move.told())
            kept = copy.deepcopy(told)
            made = move_of(told)
            self.assertIs(type(move), type(made))
            self.assertEqual(kept, made.told())
            self.assertEqual(kept, told)
            self.assertEqual(tuple, type(made.told()))

    def test_it_does_the_same(self):
        rng = source(6)
        for turn in range(150):
            sizes = draw_sizes(rng, 3, 3)
            move = Chain([draw_move(rng, sizes), Chain([draw_move(rng, sizes)])])
            made = move_of(move.told())
            if fitted(move.told(), sizes) is None:
                self.refuse(NoMove, made.sizes_of, sizes)
            else:
                self.assertEqual(move.sizes_of(sizes), made.sizes_of(sizes))
                self.assertEqual(move.on(whole(sizes)).axes, made.on(whole(sizes)).axes)

    def test_lists_are_changed(self):
        inner = [1, 0]
        parts = [("turn", inner), ("stay",)]
        made = move_of(("chain", parts))
        inner.append(7)
        parts.clear()
        wanted = ("chain", [("turn", [1, 0]), ("stay",)])
        self.assertEqual(wanted, made.told())
        made.told()[1][0][1].clear()
        made.told()[1].clear()
        self.assertEqual(wanted, made.told())

    def test_words_that_are_none(self):
        for word in ["", "Stay", "stay ", "cuts", "move", "then", None, 0, True, b"stay", [], {}, (), Prickly()]:
            self.refuse(NoMove, move_of, (word,))
            self.refuse(NoMove, move_of, (word, 0))
            self.refuse(NoMove, move_of, (word, []))

    def test_too_few_and_too_many(self):
        for move, told in EACH:
            self.refuse(NoMove, move_of, told + (0,))
            self.refuse(NoMove, move_of, told + (None,))
            self.refuse(NoMove, move_of, told + ([],))
            if len(told) > 1:
                self.refuse(NoMove, move_of, told[:-1])
        self.refuse(NoMove, move_of, ())

    def test_a_list_for_a_tuple(self):
        for move, told in EACH:
            self.refuse(NoMove, move_of, list(told))
            self.refuse(NoMove, move_of, ("chain", [list(told)]))
            self.refuse(NoMove, move_of, (told,))
            self.refuse(NoMove, move_of, [told])

    def test_no_whole_number_where_one_stands(self):
        flat = [told for move, told in EACH if told[0] not in ("turn", "chain")]
        for told in flat:
            for at in range(1, len(told)):
                for thing in NO_NUMBERS:
                    if thing is None and told[0] == "slice" and at > 1:
                        continue
                    self.refuse(NoMove, move_of, told[:at] + (thing,) + told[at + 1:])
        for thing in NO_NUMBERS:
            self.refuse(NoMove, move_of, ("turn", [0, thing]))
            self.refuse(NoMove, move_of, ("turn", [thing, 0]))
            if not isinstance(thing, list):
                self.refuse(NoMove, move_of, ("turn", thing))
                self.refuse(NoMove, move_of, ("chain", thing))

    def test_a_tuple_for_a_list(self):
        self.refuse(NoMove, move_of, ("turn", (0, 1)))
        self.refuse(NoMove, move_of, ("turn", 0, 1))
        self.refuse(NoMove, move_of, ("chain", (("stay",),)))
        self.refuse(NoMove, move_of, ("chain", ("stay",)))

    def test_whatever_else(self):
        for thing in NO_NUMBERS + ["stay", 0, 5, {"stay": 1}, Move(), [("stay",)]]:
            self.refuse(NoMove, move_of, thing)
            self.refuse(NoMove, move_of, ("chain", [thing]))
            self.refuse(NoMove, move_of, ("chain", [("stay",), thing]))

    def test_deep_ones(self):
        for told in [("stay",), ("turn", [0, 1])]:
            for deep in range(1, 5):
                self.assertEqual(nested(told, deep), move_of(nested(told, deep)).told())
            for deep in range(5, 8):
                self.refuse(NoMove, move_of, nested(told, deep))
        self.assertEqual(nested(("chain", []), 3), move_of(nested(("chain", []), 3)).told())
        self.refuse(NoMove, move_of, nested(("chain", []), 4))
        self.refuse(NoMove, move_of, ("chain", [("stay",)] * 3 + [nested(("stay",), 4)]))

    def test_one_within_itself(self):
        parts = []
        parts.append(("chain", parts))
        self.refuse(NoMove, move_of, ("chain", parts))

    def test_forty(self):
        told = ("chain", [("stay",)] * 40)
        self.assertEqual(told, move_of(told).told())
        self.refuse(NoMove, move_of, ("chain", [("stay",)] * 41))
        self.refuse(NoMove, move_of, ("chain", [("chain", [])] * 41))
        told = ("chain", [("chain", [])] * 40)
        self.assertEqual(told, move_of(told).told())

    def test_forty_others_in_all(self):
        twenty = ("chain", [("pick", 0, 0)] * 20)
        told = ("chain", [twenty, ("chain", [twenty])])
        self.assertEqual(told, move_of(told).told())
        self.assertEqual(nested(("chain", [("stay",)] * 40), 3), move_of(nested(("chain", [("stay",)] * 40), 3)).told())
        self.refuse(NoMove, move_of, ("chain", [twenty, twenty, ("stay",)]))
        self.refuse(NoMove, move_of, ("chain", [("stay",), ("chain", [twenty, twenty])]))
        self.refuse(NoMove, move_of, ("chain", [("chain", [("chain", [("stay",)] * 7)] * 3)] * 2))
        great = ("chain", [("chain", [("chain", [("chain", [("stay",)] * 40)] * 40)] * 40)] * 40)
        self.refuse(NoMove, move_of, great)

    def test_whether_it_fits_is_not_looked_at(self):
        for told in [("slice", -9, 0, 0, 0), ("turn", [9, 9]), ("spread", 0, -1), ("cut", 0, 0), ("diagonal", 1, 1)]:
            self.assertEqual(told, move_of(told).told())

    def test_arguments(self):
        self.signed((Chain, "(moves)"), (move_of, "(told)"))


if __name__ == "__main__":
    unittest.main()
