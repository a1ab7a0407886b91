import inspect
import math
import unittest

from pacehall.numbers import divisor, divisor_of, is_whole

SIXTY = 10 ** 60 - 1
SOME = [0, 1, -1, 2, -2, 6, -9, 12, 97, -360, 10 ** 18, -(10 ** 59), SIXTY, -SIXTY, 7 * 10 ** 58, 3 ** 120]


class IsWholeTest(unittest.TestCase):

    def test_whole_numbers(self):
        for number in SOME:
            self.assertIs(True, is_whole(number))

    def test_truths_are_none(self):
        self.assertIs(False, is_whole(True))
        self.assertIs(False, is_whole(False))

    def test_other_kinds_are_none(self):
        others = [None, "1", "", 1.0, 0.0, float("nan"), 1j, b"1", [], [1], (), (1,), {}, set(), int, object(), len]
        for thing in others:
            self.assertIs(False, is_whole(thing), thing)


class DivisorTest(unittest.TestCase):

    def test_ordinary(self):
        self.assertEqual(6, divisor(12, 18))
        self.assertEqual(6, divisor(18, 12))
        self.assertEqual(1, divisor(8, 9))
        self.assertEqual(5, divisor(5, 5))
        self.assertEqual(1, divisor(1, 10 ** 59))

    def test_signs_do_not_matter(self):
        for one, other in [(12, 18), (-12, 18), (12, -18), (-12, -18)]:
            self.assertEqual(6, divisor(one, other))

    def test_nought_and_another_one(self):
        for number in SOME:
            self.assertEqual(abs(number), divisor(0, number))
            self.assertEqual(abs(number), divisor(number, 0))

    def test_nought_and_nought(self):
        self.assertEqual(0, divisor(0, 0))

    def test_sixty_figures(self):
        common = 10 ** 29 + 9
        one = common * (10 ** 30 - 1)
        other = common * 10 ** 30
        self.assertEqual(60, len(str(other)))
        self.assertEqual(common, divisor(one, other))
        self.assertEqual(common, divisor(-other, one))

    def test_by_pythons_own(self):
        for one in SOME + list(range(-25, 26)):
            for other in SOME + list(range(-25, 26)):
                self.assertEqual(math.gcd(one, other), divisor(one, other), (one, other))

    def test_greatest_that_divides_both(self):
        for one in range(1, 40):
            for other in range(1, 40):
                both = [number for number in range(1, 40) if one % number == 0 and other % number == 0]
                self.assertEqual(max(both), divisor(one, other))


class DivisorOfTest(unittest.TestCase):

    def test_of_none(self):
        self.assertEqual(0, divisor_of([]))

    def test_of_one(self):
        for number in SOME:
            self.assertEqual(abs(number), divisor_of([number]))

    def test_of_several(self):
        self.assertEqual(3, divisor_of([12, -18, 27]))
        self.assertEqual(1, divisor_of([6, 10, 15]))
        self.assertEqual(4, divisor_of([0, 8, 0, -12]))
        self.assertEqual(0, divisor_of([0, 0, 0]))
        self.assertEqual(math.gcd(*SOME), divisor_of(SOME))
        self.assertEqual(10 ** 58, divisor_of([3 * 10 ** 59, -(10 ** 58), 7 * 10 ** 58]))

    def test_the_list_stays(self):
        numbers = [12, -18, 0, 27]
        divisor_of(numbers)
        self.assertEqual([12, -18, 0, 27], numbers)

    def test_asked_again(self):
        numbers = [12, -18, 0, 27]
        self.assertEqual(divisor_of(numbers), divisor_of(numbers))


class InterfaceTest(unittest.TestCase):

    def test_arguments(self):
        self.assertEqual("(thing)", str(inspect.signature(is_whole)))
        self.assertEqual("(one, other)", str(inspect.signature(divisor)))
        self.assertEqual("(numbers)", str(inspect.signature(divisor_of)))


if __name__ == "__main__":
    unittest.main()
