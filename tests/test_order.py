"""The order of lengths."""

import unittest
from itertools import permutations

from helper import FAR, GREAT

from crookroad.errors import BadCount
from crookroad.order import ahead, arranged, following


def order_up_to(most):
    """All numbers from 1 to the most as the order tells them, one group after the other."""
    told = []
    for twos in range(most.bit_length()):
        told += [odd << twos for odd in range(3, most + 1, 2) if odd << twos <= most]
    return told + [1 << twos for twos in range(most.bit_length(), -1, -1) if 1 << twos <= most]


# Numbers of up to seventy figures, in their order.
GREAT_ORDER = [3, 5, 10 ** 60 + 1, 10 ** 69 + 1, GREAT, 6, 2 * (10 ** 68 + 1), GREAT - 1, 12, 4 * (10 ** 40 + 1),
               FAR, 3 * 2 ** 100, 5 ** 20 * 2 ** 100, 3 * 2 ** 230, 2 ** 232, 2 ** 231, 2 ** 64, 2 ** 10, 2, 1]
WRONG = (0, -1, -2, -3, -6, -GREAT)
WRONG_MOST = (-1, -2, -3, -200, -GREAT, 201, 202, 203, 400, 10 ** 40, GREAT)


class Ahead(unittest.TestCase):

    def check(self, told):
        for place, one in enumerate(told):
            for other_place, other in enumerate(told):
                self.assertIs(ahead(one, other), place < other_place, (one, other))

    def test_written_out(self):
        self.check([3, 5, 7, 9, 6, 10, 14, 12, 20, 28, 24, 40, 16, 8, 4, 2, 1])

    def test_each_two_of_many(self):
        self.check(order_up_to(200))

    def test_odd_numbers_rise(self):
        for odd in range(3, 99, 2):
            self.assertIs(ahead(odd, odd + 2), True)
            self.assertIs(ahead(odd + 2, odd), False)

    def test_powers_of_two_fall(self):
        powers = [2 ** k for k in range(232, -1, -1)]
        for one, other in zip(powers, powers[1:]):
            self.assertIs(ahead(one, other), True)
            self.assertIs(ahead(other, one), False)
            self.assertIs(ahead(one, 3 * other), False)
            self.assertIs(ahead(3 * other, one), True)

    def test_doubles_stand_behind(self):
        for odd in (3, 5, 99, 10 ** 20 + 1):
            for twos in range(100):
                self.assertIs(ahead((10 ** 30 + 1) << twos, odd << (twos + 1)), True)
                self.assertIs(ahead(odd << (twos + 1), (10 ** 30 + 1) << twos), False)
                self.assertIs(ahead(odd << twos, (odd + 2) << twos), True)
                self.assertIs(ahead(odd << twos, 1 << 232), True)

    def test_seventy_figures(self):
        self.check(GREAT_ORDER)

    def test_the_same_number(self):
        for number in list(range(1, 70)) + GREAT_ORDER:
            self.assertIs(ahead(number, number), False)

    def test_numbers_below_one(self):
        for wrong in WRONG:
            for right in (1, 2, 3, 12, GREAT):
                for one, other in ((wrong, right), (right, wrong), (wrong, wrong)):
                    with self.subTest(one=one, other=other):
                        with self.assertRaises(BadCount):
                            ahead(one, other)


class Arranged(unittest.TestCase):

    def test_written_out(self):
        self.assertEqual(arranged([]), [])
        self.assertEqual(arranged([1]), [1])
        self.assertEqual(arranged([1, 2, 3, 4, 5, 6, 7, 8, 9, 10, 11, 12]), [3, 5, 7, 9, 11, 6, 10, 12, 8, 4, 2, 1])
        self.assertEqual(arranged([2, 6, 2, 1, 3, 6, 1, 3]), [3, 3, 6, 6, 2, 2, 1, 1])

    def test_many(self):
        for most in (1, 2, 3, 17, 64, 200):
            self.assertEqual(arranged(list(range(1, most + 1))), order_up_to(most))
            self.assertEqual(arranged(list(range(most, 0, -1))), order_up_to(most))

    def test_each_row_of_few(self):
        for numbers in permutations((3, 7, 6, 12, 4, 1)):
            self.assertEqual(arranged(list(numbers)), [3, 7, 6, 12, 4, 1])

    def test_seventy_figures(self):
        self.assertEqual(arranged(GREAT_ORDER[::-1]), GREAT_ORDER)
        self.assertEqual(arranged(sorted(GREAT_ORDER)), GREAT_ORDER)

    def test_the_list_handed_in_is_neither_changed_nor_told(self):
        numbers = [1, 2, 3, 3]
        told = arranged(numbers)
        self.assertEqual(numbers, [1, 2, 3, 3])
        self.assertIs(type(told), list)
        told.clear()
        self.assertEqual(arranged(numbers), [3, 3, 2, 1])
        numbers = [3, 2, 1]
        arranged(numbers).append(9)
        self.assertEqual(numbers, [3, 2, 1])

    def test_a_number_below_one_at_any_place(self):
        for wrong in WRONG:
            for many in (1, 2, 7):
                for place in range(many):
                    numbers = list(range(1, many + 1))
                    numbers[place] = wrong
                    before = list(numbers)
                    with self.assertRaises(BadCount):
                        arranged(numbers)
                    self.assertEqual(numbers, before)


class Following(unittest.TestCase):

    def test_written_out(self):
        self.assertEqual(following(3, 7), [1, 2, 3, 4, 5, 6, 7])
        self.assertEqual(following(5, 8), [1, 2, 4, 5, 6, 7, 8])
        self.assertEqual(following(6, 14), [1, 2, 4, 6, 8, 10, 12, 14])
        self.assertEqual(following(12, 40), [1, 2, 4, 8, 12, 16, 20, 24, 28, 32, 36, 40])
        self.assertEqual(following(8, 200), [1, 2, 4, 8])
        self.assertEqual(following(1, 200), [1])
        self.assertEqual(following(9, 4), [1, 2, 4])

    def test_every_number(self):
        told = order_up_to(400)
        for number in range(1, 201):
            behind = told[told.index(number):]
            for most in (0, 1, 2, 3, 12, 37, 64, 199, 200):
                self.assertEqual(following(number, most), [k for k in range(1, most + 1) if k in behind])

    def test_a_most_of_nothing(self):
        for number in (1, 2, 3, 100, GREAT):
            told = following(number, 0)
            self.assertIs(type(told), list)
            self.assertEqual(told, [])

    def test_seventy_figures(self):
        powers = [1, 2, 4, 8, 16, 32, 64, 128]
        self.assertEqual(following(GREAT, 200), [k for k in range(1, 201) if k % 2 == 0 or k == 1])
        self.assertEqual(following(GREAT - 1, 200), [k for k in range(1, 201) if k % 4 == 0 or k in (1, 2)])
        self.assertEqual(following(2 ** 232, 200), powers)
        self.assertEqual(following(3 * 2 ** 230, 200), powers)
        self.assertEqual(following(FAR, 200), powers)

    def test_a_told_list_is_a_new_one(self):
        following(3, 5).clear()
        self.assertEqual(following(3, 5), [1, 2, 3, 4, 5])

    def test_numbers_below_one(self):
        for wrong in WRONG:
            for most in (0, 1, 200) + WRONG_MOST:
                with self.subTest(wrong=wrong, most=most):
                    with self.assertRaises(BadCount):
                        following(wrong, most)

    def test_a_most_out_of_its_bounds(self):
        for number in (1, 2, 3, 7, 12, 200, 201, GREAT):
            for wrong in WRONG_MOST:
                with self.subTest(number=number, wrong=wrong):
                    with self.assertRaises(BadCount):
                        following(number, wrong)

    def test_both_ends_of_the_most(self):
        self.assertEqual(following(3, 200), list(range(1, 201)))
        self.assertEqual(following(200, 200), [1, 2, 4, 8, 16, 32, 48, 64, 80, 96, 112, 128, 144, 160, 176, 192, 200])
        self.assertEqual(following(7, 0), [])

    def test_the_most_bounds_no_other_number(self):
        self.assertEqual(following(201, 9), [1, 2, 4, 6, 8])
        self.assertIs(ahead(201, 202), True)
        self.assertEqual(arranged([202, 201]), [201, 202])


if __name__ == "__main__":
    unittest.main()
