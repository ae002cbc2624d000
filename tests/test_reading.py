import copy
import math
import unittest
from fractions import Fraction

from numbertexts.decimals import compare
from numbertexts.formats import code_of, count_of, told_format, value_of
from numbertexts.reading import around, is_way, position, read
from slow_ways import (
    HALF, SMALL_FORMATS, WAYS, any_values, code_by_words, decimal_of, numbers_of, position_by_words, power, real_at)

B64 = told_format("binary64")
GREAT_FORMATS = (B64, told_format("binary16"), told_format("bfloat16"), (128, -1200, 1200), (1, -1200, 1200))
TINY = Fraction(1, 10 ** 40)


def some_codes(form):
    p, low, high = form
    half = 2 ** (p - 1)
    last = count_of(form) - 1
    picked = (0, 1, 2, 3, half - 1, half, half + 1, 2 * half - 1, 2 * half, last // 2, last - half, last - 1, last)
    return sorted({code for code in picked if 0 <= code <= last})


def value_at_code(form, code):
    m, e = value_of(form, code)
    return m * power(2, e)


class Ways(unittest.TestCase):
    def test_the_five_ways(self):
        for way in WAYS:
            self.assertIs(is_way(way), True)

    def test_what_is_no_way(self):
        for value in ("up", "", "Even", "even ", "evenaway", "e", ("even",), ["odd"], {"odd": 1}, b"odd"):
            self.assertIs(is_way(value), False)

    def test_any_value(self):
        for value in any_values():
            kept = copy.deepcopy(value)
            self.assertIs(is_way(value), value == "even")
            self.assertEqual(value, kept)


class Positions(unittest.TestCase):
    def check_position(self, form, x, place):
        found = position(form, x.numerator, x.denominator)
        self.assertEqual(found, (place.numerator, place.denominator), (form, x))
        self.assertEqual(position(form, x.numerator * 12, x.denominator * 12), found)

    def test_the_position_of_a_number_is_its_code(self):
        for form in SMALL_FORMATS:
            for code, number in enumerate(numbers_of(form)):
                self.check_position(form, number, Fraction(code))
        for form in GREAT_FORMATS:
            for code in some_codes(form):
                self.check_position(form, value_at_code(form, code), Fraction(code))

    def test_between_two_numbers_it_rises_evenly(self):
        for form in SMALL_FORMATS:
            for place in range(4 * count_of(form) + 30):
                self.check_position(form, real_at(form, Fraction(place, 4)), Fraction(place, 4))

    def test_by_the_words_of_the_point(self):
        for form in SMALL_FORMATS:
            p, low, high = form
            for exponent in range(low - 4, p + high + 5):
                for den in (1, 3, 7, 10, 64):
                    for num in range(den - 2, den + 3):
                        if num >= 0:
                            x = Fraction(num, den) * power(2, exponent)
                            self.check_position(form, x, position_by_words(form, x))

    def test_at_powers_of_two_and_beside_them(self):
        for form in (*SMALL_FORMATS, *GREAT_FORMATS[:3]):
            p, low, high = form
            for exponent in (low - 1, low, p + low - 1, p + low, p + low + 1, p + high - 1, p + high, p + high + 1):
                for x in (power(2, exponent) - TINY, power(2, exponent), power(2, exponent) + TINY):
                    if x > 0:
                        self.check_position(form, x, position_by_words(form, x))

    def test_far_above_the_greatest_number_it_goes_on_evenly(self):
        form = (3, -2, 2)
        for x in (32, 40, 64, 1000, 10 ** 30):
            self.check_position(form, Fraction(x), 16 + Fraction(x, 4))
        self.assertEqual(position(form, 10 ** 3000, 1), (16 + 10 ** 3000 // 4, 1))

    def test_great_fractions(self):
        least, greatest = 10 ** 3000, 10 ** 3000
        for form in GREAT_FORMATS:
            p, low, high = form
            for num, den in ((least - 1, greatest), (greatest, least - 7), (3 ** 6200, 7 ** 3500), (1, greatest), (greatest, 1)):
                n, d = position(form, num, den)
                self.assertGreaterEqual(d, 1)
                self.assertEqual(math.gcd(n, d), 1)
                x = Fraction(num, den)
                self.assertEqual(Fraction(n, d), position_by_words(form, x))

    def test_zero(self):
        for form in (*SMALL_FORMATS, *GREAT_FORMATS):
            self.assertEqual(position(form, 0, 1), (0, 1))
            self.assertEqual(position(form, 0, 10 ** 3000), (0, 1))


class Reading(unittest.TestCase):
    def check_all_ways(self, form, real, place, beyond):
        decimal = decimal_of(real)
        for way in WAYS:
            self.assertEqual(read(form, way, decimal), code_by_words(way, place, beyond), (form, way, decimal))

    def test_small_formats_gone_through_whole(self):
        # Quarters of positions are the numbers, the middles, and what lies between them.
        for form in SMALL_FORMATS:
            beyond = count_of(form)
            for quarter in range(4 * beyond + 14):
                place = Fraction(quarter, 4)
                self.check_all_ways(form, real_at(form, place), place, beyond)

    def test_just_beside_numbers_and_middles(self):
        for form in SMALL_FORMATS:
            beyond = count_of(form)
            for twice in range(2 * beyond + 6):
                place = Fraction(twice, 2)
                real = real_at(form, place)
                self.check_all_ways(form, real + TINY, place + Fraction(1, 100), beyond)
                if twice > 0:
                    self.check_all_ways(form, real - TINY, place - Fraction(1, 100), beyond)

    def test_far_above_the_greatest_number(self):
        for form in (*SMALL_FORMATS, *GREAT_FORMATS):
            beyond = count_of(form)
            for decimal in ((1, 2500), (10 ** 1300 - 1, 2500), (1, 1000)):
                found = [read(form, way, decimal) for way in WAYS]
                odd = beyond if beyond % 2 == 1 else beyond - 1
                self.assertEqual(found, [beyond, beyond, beyond - 1, beyond, odd], form)

    def test_zero_and_what_is_almost_zero(self):
        for form in (*SMALL_FORMATS, *GREAT_FORMATS):
            for way in WAYS:
                self.assertEqual(read(form, way, (0, 0)), 0)
                self.assertEqual(read(form, way, (0, 2500)), 0)
                self.assertEqual(read(form, way, (1, -2500)), 1 if way in ("out", "odd") else 0)

    def test_great_formats(self):
        for form in GREAT_FORMATS:
            last = count_of(form) - 1
            for code in some_codes(form):
                number = value_at_code(form, code)
                for way in WAYS:
                    self.assertEqual(read(form, way, decimal_of(number)), code, (form, way))
                step = value_at_code(form, code + 1) - number if code < last else power(2, form[2])
                middle = number + step / 2
                even = code + code % 2
                above = [even, code + 1, code, code + 1, code | 1]
                if code == last:
                    above[4] = last | 1
                self.assertEqual([read(form, way, decimal_of(middle)) for way in WAYS], above, (form, code))

    def test_decimals_of_many_digits_beside_a_middle(self):
        for form in (B64, GREAT_FORMATS[1], (128, -600, 600)):
            for code in (0, 1, 2, 9, count_of(form) // 2, count_of(form) // 2 + 1, count_of(form) - 2):
                middle = (value_at_code(form, code) + value_at_code(form, code + 1)) / 2
                d, q = decimal_of(middle)
                while d * 10 < 10 ** 1300:
                    d, q = d * 10, q - 1
                for way in ("even", "away"):
                    self.assertEqual(read(form, way, (d - 1, q)), code)
                    self.assertEqual(read(form, way, (d + 1, q)), code + 1)
                self.assertEqual(read(form, "even", (d, q)), code + code % 2)
                self.assertEqual(read(form, "away", (d, q)), code + 1)

    def test_known_decimals_of_binary64(self):
        for text in ("0.1", "0.3", "1e23", "9007199254740993", "4.9e-324", "2.2250738585072011e-308", "1.7976931348623157e308"):
            m, e = Fraction(float(text)), 0
            while m.denominator != 1:
                m, e = m * 2, e - 1
            d, q = decimal_of(Fraction(text))
            self.assertEqual(read(B64, "even", (d, q)), code_of(B64, m.numerator, e), text)

    def test_a_greater_decimal_is_not_read_as_a_lesser_code(self):
        decimals = [(d, q) for d in range(1, 60) for q in (-2, -1, 0)]
        for form in SMALL_FORMATS:
            for way in WAYS:
                codes = [(worth.numerator, worth.denominator, read(form, way, decimal))
                         for worth, decimal in sorted((d * power(10, q), (d, q)) for d, q in decimals)]
                self.assertTrue(all(one[2] <= other[2] for one, other in zip(codes, codes[1:])))

    def test_equal_decimals_are_read_alike(self):
        for form in (*SMALL_FORMATS, B64):
            for way in WAYS:
                for d, q in ((225, -2), (5, 0), (1, 23), (12345, -7)):
                    self.assertEqual(compare((d, q), (d * 1000, q - 3)), 0)
                    self.assertEqual(read(form, way, (d, q)), read(form, way, (d * 1000, q - 3)))


class Around(unittest.TestCase):
    def test_small_formats_gone_through_whole(self):
        for form in SMALL_FORMATS:
            numbers = numbers_of(form)
            for quarter in range(4 * len(numbers) + 14):
                for shift in (-TINY, 0, TINY):
                    real = real_at(form, Fraction(quarter, 4)) + shift
                    if real >= 0:
                        lower = max(code for code, number in enumerate(numbers) if number <= real)
                        upper = min([code for code, number in enumerate(numbers) if number >= real] + [len(numbers)])
                        self.assertEqual(around(form, decimal_of(real)), (lower, upper), (form, real))

    def test_great_formats(self):
        for form in GREAT_FORMATS:
            last = count_of(form) - 1
            for code in some_codes(form):
                d, q = decimal_of(value_at_code(form, code))
                self.assertEqual(around(form, (d, q)), (code, code))
                if code > 0:
                    self.assertEqual(around(form, (d * 10 + 1, q - 1)), (code, code + 1))
                    self.assertEqual(around(form, (d * 10 - 1, q - 1)), (code - 1, code))
            self.assertEqual(around(form, (1, 2500)), (last, last + 1))
            self.assertEqual(around(form, (1, -2500)), (0, 1))
            self.assertEqual(around(form, (0, -2500)), (0, 0))

    def test_a_middle_lies_between_its_neighbours(self):
        self.assertEqual(around((3, -2, 2), (225, -2)), (8, 9))
        self.assertEqual(HALF + 8, Fraction(*position((3, -2, 2), 9, 4)))


if __name__ == "__main__":
    unittest.main()
