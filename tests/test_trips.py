import random
import unittest

from numbertexts.bounds import MAX_TRIP
from numbertexts.errors import NoIndex
from numbertexts.formats import count_of, told_format, value_of
from numbertexts.printing import rounded
from numbertexts.reading import read
from numbertexts.trips import (
    count_dropped, count_lost, digits_enough, digits_kept, dropped_at, is_enough, is_kept, least_dropped, least_lost,
    lost_at)
from slow_ways import SMALL_FORMATS, numbers_of, power, read_by_words, rounded_by_words, worth, wrong_indexes

T = (3, -2, 2)
SMALL = (*SMALL_FORMATS, (4, -2, 4), (6, -5, 8), (7, -14, -10), (7, 6, 12), (8, -3, 3), (1, -8, 9), (2, -8, 9))
B16, B32, B64 = (told_format(name) for name in ("binary16", "binary32", "binary64"))
GREAT = (B16, told_format("bfloat16"), B32, B64, (128, -1200, 1200), (1, -1200, 1200), (113, -60, 90), (64, 900, 1200))


def is_lost(form, code, digits):
    return read(form, "even", rounded(form, code, digits)) != code


def lost_by_words(form, digits):
    numbers = numbers_of(form)
    return [code for code in range(1, len(numbers))
            if read_by_words(form, "even", rounded_by_words(numbers[code], digits)) != code]


def is_dropped(form, decimal, digits):
    return worth(rounded(form, read(form, "even", decimal), digits)) != worth(decimal)


def has_digits(form, decimal, digits):
    """Whether the decimal has so many digits by the words of point 23."""
    p, low, high = form
    least, greatest = power(2, p - 1 + low), (2 ** p - 1) * power(2, high)
    return 10 ** (digits - 1) <= decimal[0] < 10 ** digits and least <= worth(decimal) <= greatest


def dropped_by_words(form, digits):
    """The decimals with so many digits that are dropped, in ascending order of value; going through all of them."""
    p, low, high = form
    least, greatest = power(2, p - 1 + low), (2 ** p - 1) * power(2, high)
    numbers = numbers_of(form)
    found = []
    for q in range(-12, 9):
        step = power(10, q)
        for d in range(max(10 ** (digits - 1), int(least / step)), min(10 ** digits - 1, int(greatest / step)) + 1):
            if least <= d * step <= greatest:
                code = read_by_words(form, "even", d * step)
                if rounded_by_words(numbers[code], digits) != d * step:
                    found.append((d, q))
    return sorted(found, key=worth)


def some_indexes(many):
    return sorted({index for index in (0, 1, many // 3, many // 2, many - 2, many - 1) if 0 <= index < many})


class Lost(unittest.TestCase):
    def test_all_codes_of_small_formats_by_the_words(self):
        for form in SMALL:
            for digits in (1, 2, 3, 4):
                lost = lost_by_words(form, digits)
                self.assertIs(is_enough(form, digits), not lost, (form, digits))
                self.assertEqual(least_lost(form, digits), lost[0] if lost else None, (form, digits))
                self.assertEqual(count_lost(form, digits), len(lost), (form, digits))
                self.assertEqual([lost_at(form, digits, index) for index in range(len(lost))], lost, (form, digits))

    def test_digits_enough_of_small_formats(self):
        for form in SMALL:
            digits = 1
            while lost_by_words(form, digits):
                digits += 1
            self.assertEqual(digits_enough(form), digits, form)

    def test_great_formats(self):
        for form in GREAT:
            enough = digits_enough(form)
            self.assertIs(is_enough(form, enough), True)
            self.assertIs(least_lost(form, enough), None)
            self.assertEqual(count_lost(form, enough), 0)
            self.assertEqual(count_lost(form, MAX_TRIP), 0)
            for digits in sorted({1, (enough + 1) // 2, enough - 1} - {0}):
                self.check_great(form, digits)

    def check_great(self, form, digits):
        many = count_lost(form, digits)
        self.assertGreater(many, 0)
        self.assertIs(is_enough(form, digits), False)
        codes = [lost_at(form, digits, index) for index in some_indexes(many)]
        self.assertEqual(codes, sorted(set(codes)))
        self.assertEqual(codes[0], least_lost(form, digits))
        for code in codes:
            self.assertTrue(is_lost(form, code, digits), (form, digits, code))
        for code in range(max(codes[0] - 40, 1), codes[0]):
            self.assertFalse(is_lost(form, code, digits), (form, digits, code))
        for code in range(codes[-1] + 1, min(codes[-1] + 40, count_of(form))):
            self.assertFalse(is_lost(form, code, digits), (form, digits, code))
        self.check_neighbours(form, digits, many // 2, many)

    def check_neighbours(self, form, digits, index, many):
        """Between the codes of two neighbouring indexes none is lost."""
        found = [lost_at(form, digits, place) for place in range(index, min(index + 3, many))]
        for k in range(len(found) - 1):
            for code in range(found[k] + 1, min(found[k + 1], found[k] + 300)):
                self.assertFalse(is_lost(form, code, digits), (form, digits, code))

    def test_the_count_of_binary16_by_going_through_all(self):
        for digits in (2, 3, 4):
            lost = [code for code in range(1, count_of(B16)) if is_lost(B16, code, digits)]
            self.assertEqual(count_lost(B16, digits), len(lost))
            picker = random.Random(digits)
            for index in picker.sample(range(len(lost)), 25):
                self.assertEqual(lost_at(B16, digits, index), lost[index])

    def test_known_ones(self):
        self.assertEqual([digits_enough(form) for form in (B16, told_format("bfloat16"), B32, B64)], [5, 4, 9, 17])
        self.assertEqual(digits_enough((128, -1200, 1200)), 40)
        self.assertEqual(digits_enough((1, 3, 3)), 1)

    def test_below_a_power_of_two_the_numbers_lie_closer_together(self):
        # 0.25 is printed 0.2, which lies nearer to 0.1875.
        self.assertEqual([least_lost((2, -4, -1), 1), count_lost((2, -4, -1), 1)], [4, len(lost_by_words((2, -4, -1), 1))])

    def test_enough_digits_stay_enough(self):
        for form in (*SMALL, B32):
            enough = digits_enough(form)
            for digits in range(1, 14):
                self.assertIs(is_enough(form, digits), digits >= enough)
            self.assertTrue(10 ** (enough - 2) <= 2 ** form[0] or enough == 1)

    def test_what_is_no_index(self):
        for form, digits in ((T, 1), (T, 2), (B64, 16), ((1, 3, 3), 1)):
            for index in wrong_indexes(count_lost(form, digits)):
                with self.assertRaises(NoIndex) as caught:
                    lost_at(form, digits, index)
                self.assertIs(caught.exception.index, index)


class Dropped(unittest.TestCase):
    def test_all_decimals_of_small_formats_by_the_words(self):
        seen = 0
        for form in SMALL:
            for digits in (1, 2, 3):
                dropped = dropped_by_words(form, digits)
                seen += len(dropped)
                told = (form, digits)
                self.assertIs(is_kept(*told), not dropped, told)
                self.assertEqual(least_dropped(*told), dropped[0] if dropped else None, told)
                self.assertEqual(count_dropped(*told), len(dropped), told)
                some = range(len(dropped)) if len(dropped) < 100 else some_indexes(len(dropped))
                self.assertEqual([dropped_at(*told, index) for index in some], [dropped[index] for index in some], told)
        self.assertGreater(seen, 1000)

    def test_zeros_at_the_end_count(self):
        # 10 has two digits as (10, 0), and 1.0 as (10, -1).
        form = (1, 0, 5)
        dropped = dropped_by_words(form, 2)
        self.assertIn((10, 0), dropped)
        self.assertNotIn((10, -1), dropped)
        self.assertIn((20, 0), dropped)
        index = dropped.index((20, 0))
        self.assertEqual(dropped_at(form, 2, index), (20, 0))

    def test_digits_kept_of_small_formats(self):
        for form in SMALL:
            digits = 0
            while digits < 4 and not dropped_by_words(form, digits + 1):
                digits += 1
            if digits < 4:
                self.assertEqual(digits_kept(form), digits, form)

    def test_great_formats(self):
        for form in GREAT:
            kept = digits_kept(form)
            if kept > 0:
                self.assertIs(is_kept(form, kept), True)
                self.assertIs(least_dropped(form, kept), None)
                self.assertEqual(count_dropped(form, kept), 0)
            for digits in sorted({kept + 1, min(kept + 3, MAX_TRIP), MAX_TRIP}):
                self.check_great(form, digits)

    def check_great(self, form, digits):
        many = count_dropped(form, digits)
        self.assertGreater(many, 0)
        self.assertIs(is_kept(form, digits), False)
        decimals = [dropped_at(form, digits, index) for index in some_indexes(many)]
        self.assertEqual(decimals, sorted(decimals, key=worth))
        self.assertEqual(decimals[0], least_dropped(form, digits))
        for decimal in decimals:
            self.assertTrue(has_digits(form, decimal, digits), (form, decimal))
            self.assertTrue(is_dropped(form, decimal, digits), (form, decimal))
        d, q = decimals[0]
        for other in range(d - 40, d):
            if has_digits(form, (other, q), digits):
                self.assertFalse(is_dropped(form, (other, q), digits), (form, other, q))
        d, q = decimals[-1]
        for other in range(d + 1, d + 40):
            if has_digits(form, (other, q), digits):
                self.assertFalse(is_dropped(form, (other, q), digits), (form, other, q))
        self.check_neighbours(form, digits, many // 2, many)

    def check_neighbours(self, form, digits, index, many):
        """Between the decimals of two neighbouring indexes none is dropped."""
        found = [dropped_at(form, digits, place) for place in range(index, min(index + 3, many))]
        for k in range(len(found) - 1):
            (d, q), (other, other_q) = found[k], found[k + 1]
            if q == other_q:
                for between in range(d + 1, min(other, d + 300)):
                    self.assertFalse(is_dropped(form, (between, q), digits), (form, between, q))

    def test_the_count_of_binary16_by_going_through_all(self):
        dropped = []
        for q in range(-9, 3):
            for d in range(1000, 10000):
                if has_digits(B16, (d, q), 4) and is_dropped(B16, (d, q), 4):
                    dropped.append((d, q))
        self.assertEqual(count_dropped(B16, 4), len(dropped))
        for index in random.Random(4).sample(range(len(dropped)), 25):
            self.assertEqual(dropped_at(B16, 4, index), dropped[index])

    def test_known_ones(self):
        self.assertEqual([digits_kept(form) for form in (B16, told_format("bfloat16"), B32, B64)], [3, 2, 6, 15])
        self.assertEqual(digits_kept((128, -1200, 1200)), 38)
        self.assertEqual([digits_kept((1, -1200, 1200)), digits_kept(T)], [0, 0])

    def test_formats_that_keep_more_than_the_limit(self):
        # The one number that is not 0 has 839 digits, so no decimal has just its value.
        for form in ((1, -1200, -1200), (1, 1200, 1200)):
            self.assertEqual(digits_kept(form), MAX_TRIP)
            for digits in (1, 17, MAX_TRIP):
                self.assertIs(is_kept(form, digits), True)
                self.assertEqual(count_dropped(form, digits), 0)
        self.assertEqual(digits_kept((1, 3, 3)), MAX_TRIP)

    def test_fewer_digits_than_are_kept_are_kept(self):
        for form in (*SMALL, B32, B64):
            kept = digits_kept(form)
            for digits in range(1, 20):
                self.assertIs(is_kept(form, digits), digits <= kept, (form, digits))
            self.assertTrue(10 ** (kept + 1) >= 2 ** (form[0] - 1))

    def test_a_power_of_ten_that_is_read_as_a_lesser_number(self):
        found = []
        for form in ((4, 3, 6), (3, 5, 9), (5, 4, 8), (2, 0, 12)):
            for digits in (1, 2):
                for d, q in dropped_by_words(form, digits):
                    code = read(form, "even", (d, q))
                    m, e = value_of(form, code)
                    if d == 10 ** (digits - 1) and m * power(2, e) < worth((d, q)):
                        found.append((form, digits, (d, q)))
                        many = count_dropped(form, digits)
                        self.assertIn((d, q), [dropped_at(form, digits, index) for index in range(many)])
        self.assertGreater(len(found), 2)

    def test_what_is_no_index(self):
        for form, digits in ((T, 1), (T, 2), (B64, 16), (B64, 15), ((1, 3, 3), 1)):
            for index in wrong_indexes(count_dropped(form, digits)):
                with self.assertRaises(NoIndex) as caught:
                    dropped_at(form, digits, index)
                self.assertIs(caught.exception.index, index)


if __name__ == "__main__":
    unittest.main()
