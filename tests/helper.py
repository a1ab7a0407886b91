"""What the tests draw and ask over and over: views, moves, things of other kinds, the rows of the document."""

import inspect
import itertools
import random
import unittest

from pacehall.cuts import Cut, Diagonal, Window
from pacehall.errors import NoMove, NoPlace, TooMany
from pacehall.floors import whole
from pacehall.moves import Fresh, Move, Pick, Slice, Spread, Turn
from pacehall.statements import Copy, Fill, Raise, Statement, Swap
from pacehall.views import View

SIXTY = 10 ** 60 - 1


class Prickly:
    """A thing that can't be compared, counted, walked, hashed or written out."""

    def refuse(self, *things):
        raise RuntimeError("not to be asked")

    __eq__ = __ne__ = __lt__ = __le__ = __gt__ = __ge__ = __bool__ = __len__ = __iter__ = __getitem__ = refuse
    __hash__ = __repr__ = __str__ = __contains__ = __index__ = __int__ = __add__ = __mul__ = refuse


NO_NUMBERS = [
    None, True, False, "", "0", "1", 1.0, 0.0, float("nan"), 1j, b"1", [], [1], (), (1,), {}, set(), int, object(),
    Prickly(),
]


# A fresh source each time, so that no test hangs on which ones ran ahead of it.
def source(seed):
    return random.Random(seed)


def all_places(sizes):
    return list(itertools.product(*[range(size) for size in sizes]))


# Every order of loops of so many axes, both ways along each.
def all_orders(many):
    return [
        list(zip(axes, ways))
        for axes in itertools.permutations(range(many)) for ways in itertools.product([1, -1], repeat=many)
    ]


# The document's sum, cell by cell, of the axes alone.
def cells_by_sum(view):
    return [
        view.first + sum(number * pace for number, pace in zip(place, [pace for size, pace in view.axes]))
        for place in all_places([size for size, pace in view.axes])
    ]


def draw_sizes(rng, most_axes=4, most_size=4):
    return [rng.randint(1, most_size) for axis in range(rng.randint(0, most_axes))]


# Laid so that its least cell and its greatest one lie in a floor that is just as great or somewhat greater.
def draw_view(rng, sizes=None, paces=None, room=None, spare=6):
    if sizes is None:
        sizes = draw_sizes(rng)
    if paces is None:
        paces = range(-7, 8)
    axes = [(size, rng.choice(paces)) for size in sizes]
    below = sum(min(0, (size - 1) * pace) for size, pace in axes)
    above = sum(max(0, (size - 1) * pace) for size, pace in axes)
    if room is None:
        room = above - below + 1 + rng.randint(0, spare)
    if above - below >= room:
        return None
    return View(room, rng.randint(-below, room - 1 - above), axes)


# In a floor of a told room: drawn again as long as the axes don't fit into it.
def draw_view_in(rng, room, sizes=None, paces=None):
    view = None
    while view is None:
        view = draw_view(rng, sizes, paces, room)
    return view


# Paces by which no cell comes twice: each axis steps over all that lies below it, in drawn order and either way.
def draw_grid(rng, sizes):
    paces = [0] * len(sizes)
    pace = rng.choice([1, 1, 2])
    for axis in rng.sample(range(len(sizes)), len(sizes)):
        paces[axis] = pace * rng.choice([1, 1, -1])
        pace *= sizes[axis] + rng.choice([0, 0, 1, 2])
    return list(zip(sizes, paces))


# So that its least cell is the one told.
def laid(room, least, axes):
    return View(room, least - sum(min(0, (size - 1) * pace) for size, pace in axes), axes)


# Two views of one floor and of the same sizes, the first of which has no cell twice; often they lie near one another.
def draw_pair(rng, most_axes=3):
    sizes = [rng.choice([1, 2, 2, 3, 4]) for axis in range(rng.randint(0, most_axes))]
    axes = draw_grid(rng, sizes)
    room = 200 + sum(abs(pace) * (size - 1) for size, pace in axes)
    to = laid(room, 100, axes)
    if rng.random() < 0.2:
        return to, draw_view_in(rng, room, sizes, range(-5, 6))
    if rng.random() < 0.2:
        return to, laid(room, 100 + rng.randint(-2, 2), draw_grid(rng, sizes))
    other = [(size, pace * rng.choice([1, 1, 1, 1, -1])) for size, pace in axes]
    steps = [0, 1, -1] + [pace * rng.choice([1, -1]) for size, pace in axes] * 2
    return to, laid(room, 100 + sum(rng.sample(steps, rng.randint(1, 2))), other)


def draw_statement(rng, room):
    sizes = [rng.randint(1, 3) for axis in range(rng.randint(0, 2))]
    one, other = draw_view_in(rng, room, sizes, range(-4, 5)), draw_view_in(rng, room, sizes[::-1], range(-4, 5))
    return rng.choice([
        Statement(), Fill(one, rng.randint(-9, 9)), Fill(one, rng.randint(-9, 9)), Copy(one, other), Copy(one, other),
        Swap(one, other), Raise(one, other),
    ])


def draw_axis(rng, sizes):
    return rng.randint(-1, len(sizes)) if rng.random() < 0.1 or not sizes else rng.randrange(len(sizes))


def draw_bound(rng):
    return rng.choice([None, rng.randint(-6, 6)])


# Most of these fit, some don't.
def draw_move(rng, sizes):
    axis = draw_axis(rng, sizes)
    size = sizes[axis] if 0 <= axis < len(sizes) else 3
    order = list(range(len(sizes)))
    rng.shuffle(order)
    makers = [
        lambda: Move(),
        lambda: Slice(axis, draw_bound(rng), draw_bound(rng), rng.choice([None, 1, -1, 2, -2, 3])),
        lambda: Pick(axis, rng.randint(-size, size - 1)),
        lambda: Turn(order),
        lambda: Fresh(rng.randint(0, len(sizes))),
        lambda: Spread(axis, rng.randint(1, 4)),
        lambda: Cut(axis, rng.choice([inner for inner in range(1, size + 1) if size % inner == 0])),
        lambda: Window(axis, rng.randint(1, size)),
        lambda: Diagonal(axis, draw_axis(rng, sizes)),
    ]
    return rng.choice(makers)()


# The rows of the document told once more, out of what a move tells: the sizes behind and how a place behind is
# brought ahead; None where the move doesn't fit.
def fitted(told, sizes):
    found = ROWS[told[0]](list(sizes), *told[1:])
    if found is None or len(found[0]) > 8 or max(found[0], default=1) > 10 ** 9:
        return None
    return found


def fits_axis(sizes, *axes):
    return all(0 <= axis < len(sizes) for axis in axes)


def row_slice(sizes, axis, start, stop, step):
    if not fits_axis(sizes, axis) or step == 0:
        return None
    taken = range(sizes[axis])[start:stop:step]
    if not len(taken):
        return None
    return sizes[:axis] + [len(taken)] + sizes[axis + 1:], lambda p: p[:axis] + (taken[p[axis]],) + p[axis + 1:]


def row_pick(sizes, axis, at):
    if not fits_axis(sizes, axis) or not -sizes[axis] <= at < sizes[axis]:
        return None
    number = range(sizes[axis])[at]
    return sizes[:axis] + sizes[axis + 1:], lambda p: p[:axis] + (number,) + p[axis:]


def row_turn(sizes, order):
    if len(order) != len(sizes) or set(order) != set(range(len(sizes))):
        return None
    return [sizes[axis] for axis in order], lambda p: tuple(p[order.index(axis)] for axis in range(len(sizes)))


def row_fresh(sizes, axis):
    if not 0 <= axis <= len(sizes):
        return None
    return sizes[:axis] + [1] + sizes[axis:], lambda p: p[:axis] + p[axis + 1:]


def row_spread(sizes, axis, size):
    if not fits_axis(sizes, axis) or sizes[axis] != 1 or not 1 <= size <= 10 ** 9:
        return None
    return sizes[:axis] + [size] + sizes[axis + 1:], lambda p: p[:axis] + (0,) + p[axis + 1:]


def row_cut(sizes, axis, inner):
    if not fits_axis(sizes, axis) or inner < 1 or sizes[axis] % inner:
        return None
    behind = sizes[:axis] + [sizes[axis] // inner, inner] + sizes[axis + 1:]
    return behind, lambda p: p[:axis] + (p[axis] * inner + p[axis + 1],) + p[axis + 2:]


def row_window(sizes, axis, size):
    if not fits_axis(sizes, axis) or not 1 <= size <= sizes[axis]:
        return None
    behind = sizes[:axis] + [sizes[axis] - size + 1, size] + sizes[axis + 1:]
    return behind, lambda p: p[:axis] + (p[axis] + p[axis + 1],) + p[axis + 2:]


def row_diagonal(sizes, one, other):
    if not fits_axis(sizes, one, other) or one == other or sizes[one] != sizes[other]:
        return None
    kept = [axis for axis in range(len(sizes)) if axis not in (one, other)]

    def ahead(place):
        given = dict(zip(kept, place))
        return tuple(given.get(axis, place[-1]) for axis in range(len(sizes)))

    return [sizes[axis] for axis in kept] + [sizes[one]], ahead


def row_chain(sizes, told):
    steps = []
    for part in told:
        found = fitted(part, sizes)
        if found is None:
            return None
        sizes = found[0]
        steps.append(found[1])

    def ahead(place):
        for step in reversed(steps):
            place = step(place)
        return place

    return sizes, ahead


ROWS = {
    "stay": lambda sizes: (sizes, lambda p: p), "slice": row_slice, "pick": row_pick, "turn": row_turn,
    "fresh": row_fresh, "spread": row_spread, "cut": row_cut, "window": row_window, "diagonal": row_diagonal,
    "chain": row_chain,
}


class Case(unittest.TestCase):

    def refuse(self, kind, ask, *things):
        with self.assertRaises(kind) as taken:
            ask(*things)
        self.assertIs(kind, type(taken.exception))
        return taken.exception

    def too_many(self, number, ask, *things):
        self.assertEqual(number, self.refuse(TooMany, ask, *things).number)

    def signed(self, *rows):
        for function, arguments in rows:
            self.assertEqual(arguments, str(inspect.signature(function)))


# Asks a move all three of its questions and holds the answers against the rows above.
class MoveCase(Case):

    def unfit(self, move, sizes):
        self.assertIsNone(fitted(move.told(), sizes), (move.told(), sizes))
        kept = list(sizes)
        self.refuse(NoMove, move.sizes_of, sizes)
        for thing in [(), (0,), (0,) * len(sizes), None, [0], -1, True, "x", Prickly()]:
            self.refuse(NoMove, move.place_of, sizes, thing)
        self.refuse(NoMove, move.on, View(1, 0, [(size, 0) for size in sizes]))
        self.assertEqual(kept, sizes)

    def no_places(self, move, sizes, behind):
        wrong = [(0,) * (len(behind) + 1), [0] * len(behind), (-1,) * len(behind) + (0,)]
        for axis in range(len(behind)):
            for thing in [behind[axis], -1, SIXTY, True, None, "0", 0.0]:
                wrong.append((0,) * axis + (thing,) + (0,) * (len(behind) - axis - 1))
        if behind:
            wrong += [(), (0,) * (len(behind) - 1), tuple(behind)]
        for thing in wrong + [thing for thing in NO_NUMBERS if not isinstance(thing, tuple)]:
            self.refuse(NoPlace, move.place_of, sizes, thing)

    def on_a_view(self, move, view, behind, ahead):
        made = move.on(view)
        self.assertIs(View, type(made))
        self.assertEqual((view.room, behind), (made.room, made.sizes()))
        self.assertEqual([view.cell(ahead(place)) for place in all_places(behind)], cells_by_sum(made))

    def fits(self, move, sizes):
        wanted = fitted(move.told(), sizes)
        self.assertIsNotNone(wanted, (move.told(), sizes))
        kept = list(sizes)
        behind, ahead = wanted
        told = move.sizes_of(sizes)
        self.assertEqual((list, behind), (type(told), told))
        told.append(5)
        self.assertEqual(behind, move.sizes_of(sizes))
        for place in all_places(behind):
            found = move.place_of(sizes, place)
            self.assertEqual((tuple, ahead(place)), (type(found), found), (move.told(), sizes, place))
        self.no_places(move, sizes, behind)
        rng = source(len(sizes))
        self.on_a_view(move, whole(sizes), behind, ahead)
        for turn in range(3):
            view = draw_view(rng, sizes)
            axes = list(view.axes)
            self.on_a_view(move, view, behind, ahead)
            self.assertEqual(axes, view.axes)
        self.assertEqual(kept, sizes)

    def asked(self, move, sizes):
        if fitted(move.told(), sizes) is None:
            self.unfit(move, sizes)
        else:
            self.fits(move, sizes)
