import copy
import unittest

from numbertexts.decimals import compare, is_decimal, plain_decimal
from slow_ways import any_values, worth

GREATEST = 10 ** 1300 - 1


class IsDecimal(unittest.TestCase):
    def test_at_the_limits(self):
        for value in ((0, 0), (0, 2500), (0, -2500), (GREATEST, 2500), (GREATEST, -2500), (10 ** 1299, 0), (1, 0)):
            self.assertIs(is_decimal(value), True)

    def test_one_beyond_the_limits(self):
        for value in ((-1, 0), (10 ** 1300, 0), (GREATEST + 1, -2500), (5, 2501), (5, -2501), (0, 2501), (10 ** 1400, 0)):
            self.assertIs(is_decimal(value), False)

    def test_true_and_false_are_no_numbers(self):
        for value in ((True, 0), (False, 0), (1, True), (1, False), (True, True)):
            self.assertIs(is_decimal(value), False)

    def test_other_items(self):
        for item in (None, "1", "", (), (1,), [1], {}, 10 ** 1499):
            self.assertIs(is_decimal((item, 0)), False)
            self.assertIs(is_decimal((5, item)), False)

    def test_what_is_no_pair(self):
        for value in ((), (5,), (5, 0, 0), [5, 0], ((5, 0),), "50", {"d": 5, "q": 0}, 5, None):
            self.assertIs(is_decimal(value), False)

    def test_any_value(self):
        for value in any_values():
            kept = copy.deepcopy(value)
            self.assertIs(is_decimal(value), False, value)
            self.assertEqual(value, kept)


class PlainDecimal(unittest.TestCase):
    def test_zeros_at_the_end_are_taken_off(self):
        for d in (1, 2, 5, 9, 11, 25, 101, 1001, 10 ** 50 + 1, 3 ** 200):
            for zeros in (0, 1, 2, 3, 10, 17, 1000):
                for q in (-2500, -7, 0, 3, 2500):
                    self.assertEqual(plain_decimal((d * 10 ** zeros, q)), (d, q + zeros))

    def test_zero(self):
        for q in (-2500, -1, 0, 7, 2500):
            self.assertEqual(plain_decimal((0, q)), (0, 0))

    def test_the_power_may_become_greater_than_its_limit(self):
        self.assertEqual(plain_decimal((10 ** 1299, 2500)), (1, 3799))
        self.assertEqual(plain_decimal((GREATEST, 2500)), (GREATEST, 2500))


class Compare(unittest.TestCase):
    def check_compare(self, one, other, sign):
        self.assertEqual((compare(one, other), compare(other, one)), (sign, -sign), (one, other))

    def test_all_pairs_of_small_decimals(self):
        decimals = [(d, q) for d in (0, 1, 2, 9, 10, 11, 99, 100, 250, 1000) for q in (-3, -2, -1, 0, 1, 2)]
        for one in decimals:
            for other in decimals:
                mine, yours = worth(one), worth(other)
                self.assertEqual(compare(one, other), (mine > yours) - (mine < yours), (one, other))

    def test_powers_that_lie_far_from_one_another(self):
        self.check_compare((1, -2500), (1, 2500), -1)
        self.check_compare((GREATEST, -2500), (1, 2500), -1)
        self.check_compare((GREATEST, -2500), (1, -1200), -1)
        self.check_compare((GREATEST, -2500), (1, -1201), 1)
        self.check_compare((0, 2500), (1, -2500), -1)
        self.check_compare((0, 2500), (0, -2500), 0)

    def test_equal_values_that_are_told_otherwise(self):
        self.check_compare((10 ** 1299, -2500), (1, -1201), 0)
        self.check_compare((7 * 10 ** 1000, 1500), (7, 2500), 0)
        self.check_compare((25, -1), (250, -2), 0)
        self.check_compare((GREATEST, 3), (GREATEST, 3), 0)

    def test_values_that_differ_in_the_last_digit(self):
        self.check_compare((GREATEST - 1, -2500), (GREATEST, -2500), -1)
        self.check_compare((10 ** 1299, -1299), (1, 0), 0)
        self.check_compare((10 ** 1299 + 1, -1299), (1, 0), 1)
        self.check_compare((10 ** 1299 - 1, -1299), (1, 0), -1)
        self.check_compare((3, 0), (31, -1), -1)


if __name__ == "__main__":
    unittest.main()
