import inspect
import itertools
import unittest

from pacehall.errors import NoPlace, TooMany
from pacehall.places import count_of, number_of, paces_of, place_at, places

GREAT = [10 ** 9] * 8
LIKE_PLACES = [None, True, False, 0, 1, "", "00", b"00", 0.0, [], [0, 0], {}, {0: 0, 1: 0}, set(), range(2), object()]
LIKE_NUMBERS = [None, True, False, "", "0", "1", 0.0, 1.0, float("nan"), 1j, [], [0], (), (0,), (0, 0), {}, object()]


class CountTest(unittest.TestCase):

    def test_counts(self):
        self.assertEqual(6, count_of([2, 3]))
        self.assertEqual(1, count_of([1, 1, 1]))
        self.assertEqual(7, count_of([7]))
        self.assertEqual(120, count_of([2, 3, 4, 5]))

    def test_no_sizes(self):
        self.assertEqual(1, count_of([]))

    def test_great_sizes(self):
        self.assertEqual(10 ** 72, count_of(GREAT))


class PacesTest(unittest.TestCase):

    def test_paces(self):
        self.assertEqual([3, 1], paces_of([2, 3]))
        self.assertEqual([60, 20, 5, 1], paces_of([2, 3, 4, 5]))
        self.assertEqual([1], paces_of([9]))
        self.assertEqual([4, 4, 1, 1], paces_of([3, 1, 4, 1]))

    def test_no_sizes(self):
        self.assertEqual([], paces_of([]))

    def test_great_sizes(self):
        self.assertEqual([10 ** (9 * k) for k in range(7, -1, -1)], paces_of(GREAT))

    def test_the_list_is_the_askers_own(self):
        sizes = [2, 3, 4]
        told = paces_of(sizes)
        told.append(99)
        told[0] = -1
        self.assertEqual([12, 4, 1], paces_of(sizes))
        self.assertEqual([2, 3, 4], sizes)

    def test_a_list_told_stays_when_the_sizes_change(self):
        sizes = [2, 3, 4]
        told = paces_of(sizes)
        sizes[1] = 7
        sizes.append(5)
        self.assertEqual([12, 4, 1], told)


class NumbersOfPlacesTest(unittest.TestCase):

    def test_the_documents_example(self):
        told = [number_of([2, 3], place) for place in [(0, 0), (0, 1), (0, 2), (1, 0), (1, 1), (1, 2)]]
        self.assertEqual([0, 1, 2, 3, 4, 5], told)
        self.assertEqual((1, 0), place_at([2, 3], 3))
        self.assertEqual((0, 2), place_at([2, 3], 2))

    def test_no_sizes(self):
        self.assertEqual(0, number_of([], ()))
        self.assertEqual((), place_at([], 0))
        self.assertEqual([()], places([]))

    def test_kinds(self):
        self.assertIs(int, type(number_of([2, 3], (1, 2))))
        self.assertIs(tuple, type(place_at([2, 3], 5)))
        self.assertIs(tuple, type(place_at([], 0)))

    def test_there_and_back(self):
        for sizes in [[], [1], [5], [2, 3], [3, 1, 4], [2, 2, 2, 2, 3], [1, 1, 2, 1, 3, 1, 1, 2]]:
            for number in range(count_of(sizes)):
                self.assertEqual(number, number_of(sizes, place_at(sizes, number)))

    def test_great_sizes_there_and_back(self):
        last = tuple([10 ** 9 - 1] * 8)
        self.assertEqual(10 ** 72 - 1, number_of(GREAT, last))
        self.assertEqual(last, place_at(GREAT, 10 ** 72 - 1))
        self.assertEqual((0,) * 8, place_at(GREAT, 0))
        place = (1, 20, 300, 4000, 50000, 600000, 7000000, 80000000)
        number = sum(part * 10 ** (9 * (7 - k)) for k, part in enumerate(place))
        self.assertEqual(number, number_of(GREAT, place))
        self.assertEqual(place, place_at(GREAT, number))

    def test_the_number_is_the_sum_by_paces(self):
        for sizes in [[2, 3], [4, 1, 5], [3, 2, 2, 4]]:
            for place in itertools.product(*[range(size) for size in sizes]):
                total = sum(part * pace for part, pace in zip(place, paces_of(sizes)))
                self.assertEqual(total, number_of(sizes, place))

    def test_sizes_stay(self):
        sizes = [2, 3, 4]
        number_of(sizes, (1, 2, 3))
        place_at(sizes, 23)
        count_of(sizes)
        places(sizes)
        self.assertEqual([2, 3, 4], sizes)


class NoPlaceTest(unittest.TestCase):

    def refuse_place(self, sizes, thing):
        with self.assertRaises(NoPlace) as taken:
            number_of(sizes, thing)
        self.assertIs(NoPlace, type(taken.exception))

    def refuse_number(self, sizes, thing):
        with self.assertRaises(NoPlace) as taken:
            place_at(sizes, thing)
        self.assertIs(NoPlace, type(taken.exception))

    def test_other_kinds_are_no_places(self):
        for thing in LIKE_PLACES:
            for sizes in [[], [2], [2, 3]]:
                self.refuse_place(sizes, thing)

    def test_wrong_lengths(self):
        self.refuse_place([2, 3], ())
        self.refuse_place([2, 3], (0,))
        self.refuse_place([2, 3], (0, 0, 0))
        self.refuse_place([2], ())
        self.refuse_place([], (0,))
        self.refuse_place([], ((),))

    def test_just_beyond_and_below(self):
        for place in [(2, 0), (0, 3), (-1, 0), (0, -1), (2, 3), (-1, 3), (10 ** 60, 0), (0, -(10 ** 60))]:
            self.refuse_place([2, 3], place)
        self.assertEqual(5, number_of([2, 3], (1, 2)))
        for axis in range(8):
            beyond = [0] * 8
            beyond[axis] = 10 ** 9
            self.refuse_place(GREAT, tuple(beyond))

    def test_things_within_a_place(self):
        for thing in LIKE_NUMBERS:
            self.refuse_place([2, 3], (thing, 0))
            self.refuse_place([2, 3], (0, thing))

    def test_other_kinds_are_no_numbers(self):
        for thing in LIKE_NUMBERS:
            for sizes in [[], [2], [2, 3], GREAT]:
                self.refuse_number(sizes, thing)

    def test_numbers_beyond_and_below(self):
        for sizes in [[], [1], [2, 3], [7], GREAT]:
            self.refuse_number(sizes, -1)
            self.refuse_number(sizes, -(10 ** 79))
            self.refuse_number(sizes, count_of(sizes))
            self.refuse_number(sizes, count_of(sizes) + 1)
            self.refuse_number(sizes, 10 ** 80 - 1)


class AllPlacesTest(unittest.TestCase):

    def test_the_documents_example(self):
        self.assertEqual([(0, 0), (0, 1), (0, 2), (1, 0), (1, 1), (1, 2)], places([2, 3]))

    def test_by_rising_numbers(self):
        for sizes in [[], [1], [4], [1, 1], [2, 3, 2], [3, 1, 4], [2] * 8]:
            told = places(sizes)
            self.assertEqual(list(itertools.product(*[range(size) for size in sizes])), told)
            self.assertEqual(list(range(count_of(sizes))), [number_of(sizes, place) for place in told])

    def test_just_4096(self):
        for sizes in [[4096], [64, 64], [2, 2048], [8, 8, 8, 8], [1, 4096, 1]]:
            told = places(sizes)
            self.assertEqual(4096, len(told))
            self.assertEqual(tuple(size - 1 for size in sizes), told[-1])

    def refuse(self, sizes, number):
        with self.assertRaises(TooMany) as taken:
            places(sizes)
        self.assertEqual(number, taken.exception.number)

    def test_more_than_4096(self):
        self.refuse([4097], 4097)
        self.refuse([17, 241], 4097)
        self.refuse([64, 65], 4160)
        self.refuse([10 ** 9], 10 ** 9)
        self.refuse(GREAT, 10 ** 72)

    def test_the_list_is_the_askers_own(self):
        sizes = [2, 2]
        told = places(sizes)
        told[0] = "spoilt"
        told.clear()
        self.assertEqual([(0, 0), (0, 1), (1, 0), (1, 1)], places(sizes))
        places([]).clear()
        self.assertEqual([()], places([]))

    def test_a_list_told_stays_when_the_sizes_change(self):
        sizes = [2, 2]
        told = places(sizes)
        sizes[0] = 5
        sizes.append(3)
        self.assertEqual([(0, 0), (0, 1), (1, 0), (1, 1)], told)


class InterfaceTest(unittest.TestCase):

    def test_arguments(self):
        for function, arguments in [
            (count_of, "(sizes)"), (number_of, "(sizes, place)"), (place_at, "(sizes, number)"),
            (places, "(sizes)"), (paces_of, "(sizes)"),
        ]:
            self.assertEqual(arguments, str(inspect.signature(function)))


if __name__ == "__main__":
    unittest.main()
