import unittest
from fractions import Fraction

from numbertexts.decimals import is_decimal
from numbertexts.formats import count_of, told_format, value_of
from numbertexts.ranges import is_read_as, range_of
from slow_ways import SMALL_FORMATS, WAYS, code_by_words, decimal_of, power, range_by_words, real_at

TINY = Fraction(1, 10 ** 40)
GREAT_FORMATS = (told_format("binary64"), told_format("bfloat16"), (128, -1200, 1200), (1, -1200, 1200))


def told_end(real):
    """The fraction as (a, k) for a * 2 ** k with an odd a, 0 as (0, 0)."""
    if real == 0:
        return (0, 0)
    k = 0
    while real.denominator != 1:
        real, k = real * 2, k - 1
    a = real.numerator
    while a % 2 == 0:
        a, k = a // 2, k + 1
    return (a, k)


class RangeOf(unittest.TestCase):
    def test_all_codes_of_small_formats_by_the_words_of_the_point(self):
        for form in SMALL_FORMATS:
            beyond = count_of(form)
            for way in WAYS:
                for code in range(beyond + 1):
                    told = range_by_words(way, code, beyond)
                    if told is not None:
                        lower, has_lower, upper, has_upper = told
                        upper = None if upper is None else told_end(real_at(form, upper))
                        told = (told_end(real_at(form, lower)), has_lower, upper, has_upper)
                    self.assertEqual(repr(range_of(form, way, code)), repr(told), (form, way, code))

    def test_zero(self):
        for form in (*SMALL_FORMATS, *GREAT_FORMATS):
            low = form[1]
            self.assertEqual(range_of(form, "even", 0), ((0, 0), True, (1, low - 1), True))
            self.assertEqual(range_of(form, "away", 0), ((0, 0), True, (1, low - 1), False))
            self.assertEqual(range_of(form, "zero", 0), ((0, 0), True, (1, low), False))
            self.assertEqual(range_of(form, "out", 0), ((0, 0), True, (0, 0), True))
            self.assertEqual(range_of(form, "odd", 0), ((0, 0), True, (0, 0), True))
            self.assertEqual(range_of(form, "out", 1), ((0, 0), False, (1, low), True))

    def test_the_greatest_number_and_beyond_with_an_even_count(self):
        form = (3, -2, 2)
        self.assertEqual(range_of(form, "even", 24), ((15, 1), True, None, False))
        self.assertEqual(range_of(form, "away", 24), ((15, 1), True, None, False))
        self.assertEqual(range_of(form, "zero", 24), None)
        self.assertEqual(range_of(form, "out", 24), ((7, 2), False, None, False))
        self.assertEqual(range_of(form, "odd", 24), None)
        self.assertEqual(range_of(form, "even", 23), ((13, 1), False, (15, 1), False))
        self.assertEqual(range_of(form, "odd", 23), ((3, 3), False, None, False))
        self.assertEqual(range_of(form, "zero", 23), ((7, 2), True, None, False))

    def test_the_greatest_number_and_beyond_with_an_odd_count(self):
        form = (1, -1, 0)
        self.assertEqual(count_of(form), 3)
        self.assertEqual(range_of(form, "even", 3), ((3, -1), False, None, False))
        self.assertEqual(range_of(form, "away", 3), ((3, -1), True, None, False))
        self.assertEqual(range_of(form, "zero", 3), None)
        self.assertEqual(range_of(form, "odd", 3), ((1, 0), False, None, False))
        self.assertEqual(range_of(form, "odd", 2), ((1, 0), True, (1, 0), True))
        self.assertEqual(range_of(form, "zero", 2), ((1, 0), True, None, False))

    def test_great_formats(self):
        for form in GREAT_FORMATS:
            p, low, high = form
            half = 2 ** (p - 1)
            beyond = count_of(form)
            self.assertEqual(range_of(form, "zero", beyond - 1), (told_end((2 ** p - 1) * power(2, high)), True, None, False))
            self.assertEqual(range_of(form, "out", beyond - 1)[2:], (told_end((2 ** p - 1) * power(2, high)), True))
            self.assertEqual(range_of(form, "even", beyond)[0], (2 ** (p + 1) - 1, high - 1))
            # Below a power of two the numbers lie closer together than above it.
            code = 3 * half
            m, e = value_of(form, code)
            self.assertEqual((m, e), (half, low + 2))
            if p > 1:
                self.assertEqual(
                    range_of(form, "away", code), ((4 * half - 1, low), True, (2 * half + 1, low + 1), False))


class IsReadAs(unittest.TestCase):
    def test_the_ends_of_ranges_and_beside_them(self):
        for form in SMALL_FORMATS:
            beyond = count_of(form)
            for way in WAYS:
                for code in range(beyond + 1):
                    told = range_of(form, way, code)
                    if told is not None:
                        (a, k), has_lower, upper, has_upper = told
                        self.check_end(form, way, code, a * power(2, k), has_lower, 1)
                        if upper is not None:
                            a, k = upper
                            self.check_end(form, way, code, a * power(2, k), has_upper, -1)

    def check_end(self, form, way, code, real, has_end, inwards):
        self.assertIs(is_read_as(form, way, code, decimal_of(real)), has_end, (form, way, code))
        told = range_of(form, way, code)
        if told[0] != told[2]:
            self.assertIs(is_read_as(form, way, code, decimal_of(real + inwards * TINY)), True, (form, way, code))
        if real - inwards * TINY >= 0:
            self.assertIs(is_read_as(form, way, code, decimal_of(real - inwards * TINY)), False, (form, way, code))

    def test_each_decimal_is_read_as_just_one_code(self):
        for form in SMALL_FORMATS:
            beyond = count_of(form)
            for quarter in range(4 * beyond + 14):
                place = Fraction(quarter, 4)
                decimal = decimal_of(real_at(form, place))
                self.assertTrue(is_decimal(decimal))
                for way in WAYS:
                    codes = [code for code in range(beyond + 1) if is_read_as(form, way, code, decimal)]
                    self.assertEqual(codes, [code_by_words(way, place, beyond)], (form, way, place))

    def test_great_formats(self):
        for form in GREAT_FORMATS:
            beyond = count_of(form)
            for way in WAYS:
                for code in (0, 1, 2, beyond // 2, beyond - 1, beyond):
                    told = range_of(form, way, code)
                    if told is not None:
                        (a, k), has_lower, upper, has_upper = told
                        decimal = decimal_of(a * power(2, k))
                        self.assertIs(is_read_as(form, way, code, decimal), has_lower, (form, way, code))
                        self.assertIs(is_read_as(form, way, code, (1, 2500)), upper is None)


if __name__ == "__main__":
    unittest.main()
