import inspect
import itertools
import unittest

from pacehall.errors import NoCells, NoStep
from pacehall.spans import span

SIXTY = 10 ** 60 - 1


def bounded(bound, size, step):
    if bound < 0:
        bound += size
    if step > 0:
        return 0 if bound < 0 else size if bound > size else bound
    return -1 if bound < -1 else size - 1 if bound > size - 1 else bound


# Taken one by one, as the document tells it; None where none is taken.
def walked(size, start, stop, step):
    if step is None:
        step = 1
    if start is None:
        start = 0 if step > 0 else size - 1
    else:
        start = bounded(start, size, step)
    if stop is None:
        stop = size if step > 0 else -1
    else:
        stop = bounded(stop, size, step)
    taken = []
    at = start
    while at < stop if step > 0 else at > stop:
        taken.append(at)
        at += step
    return (taken[0], len(taken), step) if taken else None


# Python cuts lists by the same rule, and so tells great sizes without a walk.
def by_slice(size, start, stop, step):
    taken = range(*slice(start, stop, step).indices(size))
    return (taken[0], len(taken), 1 if step is None else step) if len(taken) else None


class SpanTest(unittest.TestCase):

    def check(self, wanted, *asked):
        if wanted is None:
            with self.assertRaises(NoCells) as taken:
                span(*asked)
            self.assertIs(NoCells, type(taken.exception))
        else:
            self.assertEqual(wanted, span(*asked), asked)

    def test_the_documents_examples(self):
        self.check((4, 2, -2), 5, 4, 0, -2)
        self.check((4, 5, -1), 5, None, None, -1)
        self.check((2, 3, 1), 5, -3, None, None)

    def test_what_is_left_out_is_none(self):
        self.check((0, 5, 1), 5)
        self.check((2, 3, 1), 5, 2)
        self.check((1, 2, 1), 5, 1, 3)
        self.assertEqual((3, 4, -1), span(4, step=-1))
        self.assertEqual((1, 2, 2), span(size=5, start=1, stop=None, step=2))

    def test_the_kind(self):
        self.assertIs(tuple, type(span(5)))

    def test_all_small_ones(self):
        bounds = [None] + list(range(-10, 11))
        steps = [None] + [step for step in range(-7, 8) if step != 0]
        for size in range(1, 6):
            for start, stop, step in itertools.product(bounds, bounds, steps):
                self.check(walked(size, start, stop, step), size, start, stop, step)

    def test_below_nought_the_size_is_added_once(self):
        self.check((4, 1, 1), 5, -1)
        self.check((0, 5, 1), 5, -5)
        self.check((0, 5, 1), 5, -7)
        self.check((0, 4, 1), 5, None, -1)
        self.check(None, 5, None, -5)
        self.check((4, 4, -1), 5, None, -5, -1)
        self.check((4, 5, -1), 5, None, -6, -1)
        self.check((0, 1, -1), 5, -5, None, -1)
        self.check(None, 5, -6, None, -1)

    def test_far_beyond_either_end(self):
        self.check((0, 5, 1), 5, -SIXTY, SIXTY)
        self.check((4, 5, -1), 5, SIXTY, -SIXTY, -1)
        self.check(None, 5, SIXTY, None)
        self.check(None, 5, None, -SIXTY)
        self.check(None, 5, SIXTY, -SIXTY)
        self.check(None, 5, -SIXTY, None, -1)
        self.check(None, 5, None, SIXTY, -1)
        self.check((4, 1, 1), 5, 4, SIXTY, None)

    def test_great_steps(self):
        self.check((0, 1, SIXTY), 5, None, None, SIXTY)
        self.check((4, 1, -SIXTY), 5, None, None, -SIXTY)
        self.check((3, 1, 5), 5, 3, None, 5)
        self.check((0, 2, 4), 5, None, None, 4)
        self.check((0, 1, 5), 5, None, None, 5)
        self.check((4, 2, -4), 5, None, None, -4)
        self.check((4, 1, -5), 5, None, None, -5)

    def test_a_size_of_one(self):
        for start, stop, step in itertools.product([None, -2, -1, 0, 1, 2], repeat=3):
            if step != 0:
                self.check(walked(1, start, stop, step), 1, start, stop, step)
        self.check((0, 1, 1), 1)
        self.check((0, 1, -1), 1, None, None, -1)
        self.check(None, 1, 1)

    def test_great_sizes(self):
        bounds = [None, 0, 1, -1, 10 ** 9, 10 ** 9 - 1, -(10 ** 9), -(10 ** 9) - 1, 5 * 10 ** 8, SIXTY, -SIXTY]
        steps = [None, 1, -1, 2, -2, 3, 7, -7, 10 ** 9, -(10 ** 9), 10 ** 9 - 1, 1 - 10 ** 9, SIXTY, -SIXTY]
        for size in [10 ** 9, 10 ** 9 - 1]:
            for start, stop, step in itertools.product(bounds, bounds, steps):
                self.check(by_slice(size, start, stop, step), size, start, stop, step)

    def test_where_none_is_taken(self):
        self.check(None, 5, 3, 3)
        self.check(None, 5, 3, 2)
        self.check(None, 5, 2, 3, -1)
        self.check(None, 5, 2, 2, -1)
        self.check(None, 5, 5)
        self.check(None, 5, None, 0)

    def test_the_step_nought_goes_ahead_of_all_else(self):
        things = [None, 0, 3, -3, SIXTY, -SIXTY, "x", [], (1,), object()]
        for size in [1, 5, 10 ** 9, 0, -1, None, "x"]:
            for start, stop in itertools.product(things, repeat=2):
                with self.assertRaises(NoStep) as taken:
                    span(size, start, stop, 0)
                self.assertIs(NoStep, type(taken.exception))

    def test_asked_again(self):
        self.assertEqual(span(9, 7, 1, -3), span(9, 7, 1, -3))

    def test_arguments(self):
        self.assertEqual("(size, start=None, stop=None, step=None)", str(inspect.signature(span)))


if __name__ == "__main__":
    unittest.main()
