import inspect
import unittest

from pacehall.cuts import Cut, Diagonal, Window
from pacehall.moves import Move
from pacehall.views import View
from tests.helper import SIXTY, MoveCase

SOME_SIZES = [[], [1], [6], [2, 3], [3, 3], [4, 1], [4, 1, 4], [2, 2, 2, 2], [1] * 7, [2] + [1] * 7]


class CutTest(MoveCase):

    def test_a_row_by_hand(self):
        self.assertEqual([2, 3, 4, 5], Cut(1, 4).sizes_of([2, 12, 5]))
        self.assertEqual((1, 11, 4), Cut(1, 4).place_of([2, 12, 5], (1, 2, 3, 4)))
        self.assertEqual([(3, -8), (4, -2)], Cut(0, 4).on(View(30, 25, [(12, -2)])).axes)
        self.assertEqual(("cut", 1, 4), Cut(1, 4).told())

    def test_each(self):
        for sizes in SOME_SIZES:
            for axis in range(-1, len(sizes) + 1):
                for inner in range(-2, 8):
                    self.asked(Cut(axis, inner), sizes)

    def test_what_does_not_fit(self):
        for move in [
            Cut(0, 0), Cut(0, -1), Cut(0, -2), Cut(0, 4), Cut(0, 5), Cut(0, 7), Cut(0, 12), Cut(0, SIXTY), Cut(1, 1),
            Cut(-1, 1),
        ]:
            self.unfit(move, [6])

    def test_great_sizes(self):
        self.assertEqual([10 ** 4, 10 ** 5], Cut(0, 10 ** 5).sizes_of([10 ** 9]))
        self.assertEqual([10 ** 9, 1], Cut(0, 1).sizes_of([10 ** 9]))
        self.assertEqual([1, 10 ** 9], Cut(0, 10 ** 9).sizes_of([10 ** 9]))
        self.assertEqual((10 ** 9 - 1,), Cut(0, 10 ** 5).place_of([10 ** 9], (9999, 99999)))

    def test_a_ninth_axis(self):
        self.fits(Cut(0, 2), [2] + [1] * 6)
        for axis in range(8):
            self.unfit(Cut(axis, 1), [2] + [1] * 7)


class WindowTest(MoveCase):

    def test_a_row_by_hand(self):
        self.assertEqual([2, 3, 4, 5], Window(1, 4).sizes_of([2, 6, 5]))
        self.assertEqual((1, 5, 4), Window(1, 4).place_of([2, 6, 5], (1, 2, 3, 4)))
        self.assertEqual([(3, -2), (4, -2)], Window(0, 4).on(View(30, 25, [(6, -2)])).axes)
        self.assertEqual(("window", 1, 4), Window(1, 4).told())

    def test_each(self):
        for sizes in SOME_SIZES:
            for axis in range(-1, len(sizes) + 1):
                for size in range(-1, 8):
                    self.asked(Window(axis, size), sizes)

    def test_what_does_not_fit(self):
        for move in [Window(0, 0), Window(0, -1), Window(0, 7), Window(0, SIXTY), Window(1, 1), Window(-1, 1)]:
            self.unfit(move, [6])

    def test_great_sizes(self):
        self.assertEqual([1, 10 ** 9], Window(0, 10 ** 9).sizes_of([10 ** 9]))
        self.assertEqual([10 ** 9, 1], Window(0, 1).sizes_of([10 ** 9]))
        self.assertEqual([2, 10 ** 9 - 1], Window(0, 10 ** 9 - 1).sizes_of([10 ** 9]))

    def test_a_ninth_axis(self):
        self.fits(Window(0, 2), [2] + [1] * 6)
        for axis in range(8):
            self.unfit(Window(axis, 1), [2] + [1] * 7)


class DiagonalTest(MoveCase):

    def test_a_row_by_hand(self):
        self.assertEqual([3, 5, 4], Diagonal(3, 1).sizes_of([3, 4, 5, 4]))
        self.assertEqual((2, 1, 4, 1), Diagonal(3, 1).place_of([3, 4, 5, 4], (2, 4, 1)))
        self.assertEqual([(3, 4)], Diagonal(0, 1).on(View(9, 0, [(3, 3), (3, 1)])).axes)
        self.assertEqual([(3, 0)], Diagonal(0, 1).on(View(9, 4, [(3, 1), (3, -1)])).axes)
        self.assertEqual(("diagonal", 3, 1), Diagonal(3, 1).told())

    def test_each(self):
        for sizes in SOME_SIZES + [[2, 3, 2, 3], [3, 2, 3, 2, 2]]:
            for one in range(-1, len(sizes) + 1):
                for other in range(-1, len(sizes) + 1):
                    self.asked(Diagonal(one, other), sizes)

    def test_what_does_not_fit(self):
        for move in [Diagonal(0, 0), Diagonal(0, 1), Diagonal(2, 2), Diagonal(0, 3), Diagonal(-1, 0), Diagonal(0, -1)]:
            self.unfit(move, [3, 4, 3])
        self.unfit(Diagonal(SIXTY, 0), [3, 3])
        self.unfit(Diagonal(0, 1), [])


class AllTest(MoveCase):

    def test_each_stands_under_move(self):
        for move in [Cut(0, 1), Window(0, 1), Diagonal(0, 1)]:
            self.assertIsInstance(move, Move)

    def test_making_refuses_nothing(self):
        for move in [Cut(-1, 0), Window(-SIXTY, -SIXTY), Diagonal(5, 5)]:
            self.assertIs(tuple, type(move.told()))

    def test_arguments(self):
        for function, arguments in [
            (Cut, "(axis, inner)"), (Window, "(axis, size)"), (Diagonal, "(one, other)"),
        ]:
            self.assertEqual(arguments, str(inspect.signature(function)))


if __name__ == "__main__":
    unittest.main()
