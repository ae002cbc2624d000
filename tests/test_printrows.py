import copy
import functools
import random
import unittest

from numbertexts.bounds import MAX_EXP, MAX_ROWBITS
from numbertexts.formats import count_of, told_format, value_of
from numbertexts.printing import shortest
from numbertexts.printrows import (
    count_wrong_print, cut_print_row, fast_shortest, fewest_print_bits, first_wrong_print, place_of, print_row_error)
from slow_ways import WAYS, any_values, power, read_by_words, worth

B16 = told_format("binary16")
B64 = told_format("binary64")
SMALL = ((5, -2, 2), (6, -9, -3), (6, 0, 4), (5, 7, 12), (4, -1, 1), (3, -2, 2), (1, -1, 1), (7, -3, -2))
GREAT = (B16, told_format("binary32"), B64, (128, -1200, 1200))


def scale_by_words(exponent):
    return power(2, exponent - 1) / power(10, place_of(exponent))


def top_by_words(row):
    _, factor, shift, height = row
    return (factor + height) * power(2, shift)


@functools.lru_cache(maxsize=None)
def fast_by_words(form, exponent):
    """(code, m) of the fast numbers of a small format for the exponent."""
    p, low, _ = form
    found = []
    for code in range(count_of(form)):
        m, e = value_of(form, code)
        if e == exponent and 11 <= m and (e == low or m > 2 ** (p - 1)):
            found.append((code, m))
    return found


def quotients(m, factor):
    num, den = factor.numerator, factor.denominator
    return [(2 * m - 1) * num // den, 4 * m * num // den, (2 * m + 1) * num // den]


def wrong_by_words(form, row):
    """The codes of the fast numbers with a quotient that is not right, one entry for each such quotient."""
    found = []
    top, scale = top_by_words(row), scale_by_words(row[0])
    for code, m in fast_by_words(form, row[0]):
        mine, right = quotients(m, top), quotients(m, scale)
        found += [code for k in range(3) if mine[k] != right[k]]
    return found


def shortest_by_words(form, way, row, code):
    """What the words of point 20 tell for a code, None as they say."""
    m = dict(fast_by_words(form, row[0])).get(code)
    if m is None or way not in ("even", "away"):
        return None
    exponent = row[0]
    step = power(10, place_of(exponent))
    below, double, above = quotients(m, top_by_words(row))
    lower, upper = (2 * m - 1) * power(2, exponent - 1), (2 * m + 1) * power(2, exponent - 1)
    first = below if (lower / step).denominator == 1 and read_by_words(form, way, lower) == code else below + 1
    last = above - 1 if (upper / step).denominator == 1 and read_by_words(form, way, upper) != code else above
    tens = last // 10 * 10
    if tens >= first:
        return tens * step
    if (m * power(2, exponent) / step).denominator == 2:
        return [n for n in (double // 2, double // 2 + 1) if n % 2 == 0][0] * step
    return (double + 1) // 2 * step


def some_rows(exponent):
    for bits in (1, 2, 3, 5, 8, 12, 20):
        yield cut_print_row(exponent, bits)
    picker = random.Random(exponent)
    for _ in range(6):
        yield exponent, picker.randint(1, 300), picker.randint(-9, -5), picker.randint(0, 3)
    yield exponent, 1, -3000, 0
    yield exponent, 2 ** 256 - 1, 3000, 3
    yield exponent, 1, 0, 0


class Places(unittest.TestCase):
    def test_around_powers_of_two_and_of_ten_and_at_the_limits(self):
        for exponent in (*range(-60, 61), -1200, -1199, -997, -996, -333, -332, 332, 333, 996, 997, 1199, 1200):
            place = place_of(exponent)
            self.assertTrue(power(10, place) <= power(2, exponent) < power(10, place + 1), exponent)
            self.assertTrue(power(2, -1) <= scale_by_words(exponent) < 5)

    def test_told_ones(self):
        self.assertEqual([place_of(exponent) for exponent in (0, 3, 4, 6, 7, 9, 10)], [0, 0, 1, 1, 2, 2, 3])
        self.assertEqual([place_of(exponent) for exponent in (-1, -3, -4, -6, -7, -9, -10)], [-1, -1, -2, -2, -3, -3, -4])
        self.assertEqual([place_of(-MAX_EXP), place_of(MAX_EXP)], [-362, 361])


class PrintRowError(unittest.TestCase):
    def test_print_rows_at_the_limits(self):
        limits = ((-MAX_EXP, MAX_EXP), (1, 2 ** MAX_ROWBITS - 1), (-3000, 3000), (0, 3))
        for item, (least, greatest) in enumerate(limits):
            for limit, beyond in ((least, least - 1), (greatest, greatest + 1)):
                row = [7, 9, -4, 2]
                row[item] = limit
                self.assertIs(print_row_error(tuple(row)), None, row)
                row[item] = beyond
                self.assertEqual(print_row_error(tuple(row)), ("exponent", "factor", "shift", "height")[item], row)

    def test_each_item_wrong_in_turn(self):
        words = ("exponent", "factor", "shift", "height")
        for item in range(4):
            for value in any_values():
                if not isinstance(value, int) or isinstance(value, bool) or abs(value) > 9 ** 400:
                    row = [1, 1, 1, 1]
                    for place in range(item, 4):
                        row[place] = value
                        self.assertEqual(print_row_error(tuple(row)), words[item], row)

    def test_what_is_no_print_row(self):
        for value in (*any_values(), [0, 1, 0, 0], (0, 1, 0), (0, 1, 0, 0, 0), ((0, 1, 0, 0),), "0100"):
            if value != (1, 2, 3, 4):
                kept = copy.deepcopy(value)
                self.assertEqual(print_row_error(value), "row", value)
                self.assertEqual(value, kept)


class CutPrintRow(unittest.TestCase):
    def test_by_the_words(self):
        for exponent in (-1200, -1199, -60, -4, -3, -2, -1, 0, 1, 2, 3, 4, 5, 9, 10, 61, 1199, 1200):
            scale = scale_by_words(exponent)
            for bits in (1, 2, 3, 16, 64, 255, 256):
                row = cut_print_row(exponent, bits)
                self.assertIs(print_row_error(row), None, row)
                told, factor, shift, height = row
                self.assertEqual(told, exponent)
                self.assertTrue(2 ** (bits - 1) <= factor < 2 ** bits)
                self.assertTrue(factor * power(2, shift) <= scale < (factor + 1) * power(2, shift))
                self.assertEqual(height, 0 if factor * power(2, shift) == scale else 1)
        self.assertEqual(cut_print_row(0, 1), (0, 1, -1, 0))


class FastShortest(unittest.TestCase):
    def test_by_the_words_with_rows_of_any_kind(self):
        told = 0
        for form in SMALL:
            _, low, high = form
            for exponent in range(low, high + 1):
                for row in some_rows(exponent):
                    for way in WAYS:
                        for code in range(0, count_of(form) + 1, 1 if way in ("even", "away") else 5):
                            found = fast_shortest(form, way, row, code)
                            wanted = shortest_by_words(form, way, row, code)
                            self.assertEqual(found is None, wanted is None, (form, way, row, code))
                            if found is not None:
                                told += 1
                                self.assertEqual(worth(found), wanted, (form, way, row, code))
                                self.assertTrue(found[0] % 10 != 0 or found == (0, 0), found)
        self.assertGreater(told, 1000)

    def test_rows_that_are_right_tell_the_shortest_decimal(self):
        for form in (*SMALL, (8, -6, 6), (9, 20, 24), (9, -40, -36)):
            _, low, high = form
            for exponent in range(low, high + 1):
                row = cut_print_row(exponent, fewest_print_bits(form, exponent))
                for code, _ in fast_by_words(form, exponent):
                    for way in ("even", "away"):
                        found = fast_shortest(form, way, row, code)
                        self.assertEqual(found, shortest(form, way, code), (form, way, code))

    def test_rows_that_are_right_for_great_formats(self):
        picker = random.Random(20)
        for form in GREAT:
            p, low, high = form
            for exponent in (low, low + 1, -54, -1, 0, 1, 2, 54, high - 1, high):
                if low <= exponent <= high:
                    row = cut_print_row(exponent, fewest_print_bits(form, exponent))
                    base = (exponent - low) * 2 ** (p - 1)
                    half = 2 ** (p - 1)
                    picked = (half + 1, half + 2, 2 * half - 1, *(picker.randrange(half + 1, 2 * half) for _ in range(9)))
                    for m in (*picked, 11, 12) if exponent == low else picked:
                        for way in ("even", "away"):
                            found = fast_shortest(form, way, row, base + m)
                            self.assertEqual(found, shortest(form, way, base + m), (form, way, exponent, m))
                    self.assertIs(fast_shortest(form, "zero", row, base + half + 1), None)
                    self.assertEqual(fast_shortest(form, "even", row, base + half) is None, exponent > low or half < 11)
                    self.assertIs(fast_shortest(form, "even", row, base + 10), None)
                    self.assertIs(fast_shortest(form, "even", row, count_of(form)), None)

    def test_a_print_row_for_an_exponent_that_the_format_does_not_have(self):
        for exponent in (-3, 3, 1200):
            row = cut_print_row(exponent, 9)
            for code in range(count_of((6, -2, 2)) + 1):
                self.assertIs(fast_shortest((6, -2, 2), "even", row, code), None)
            self.assertIs(first_wrong_print((6, -2, 2), row), None)
            self.assertEqual(count_wrong_print((6, -2, 2), row), 0)


class WrongPrints(unittest.TestCase):
    def test_small_formats_against_all_fast_numbers(self):
        seen = 0
        for form in (*SMALL, (9, -7, 6), (8, 30, 33)):
            _, low, high = form
            for exponent in range(low - 1, high + 2):
                for row in some_rows(exponent):
                    wrong = wrong_by_words(form, row)
                    self.assertEqual(first_wrong_print(form, row), wrong[0] if wrong else None, (form, row))
                    self.assertEqual(count_wrong_print(form, row), len(wrong), (form, row))
                    seen += len(wrong) > 0
        self.assertGreater(seen, 100)

    def test_great_formats(self):
        for form in GREAT:
            p, low, high = form
            for exponent in (low, -55, 0, 3, 55, high):
                if low <= exponent <= high:
                    bits = fewest_print_bits(form, exponent)
                    for row in (cut_print_row(exponent, max(bits - 1, 1)), cut_print_row(exponent, 7),
                                (exponent, 2 ** 200 + 1, -199, 2), (exponent, 1, 0, 0)):
                        self.check_great(form, row)
                    self.assertIs(first_wrong_print(form, cut_print_row(exponent, bits)), None)
                    self.assertEqual(count_wrong_print(form, cut_print_row(exponent, bits)), 0)

    def check_great(self, form, row):
        found = first_wrong_print(form, row)
        self.assertEqual(found is None, count_wrong_print(form, row) == 0)
        if found is not None:
            m, e = value_of(form, found)
            self.assertEqual(e, row[0])
            top, scale = top_by_words(row), scale_by_words(e)
            self.assertNotEqual(quotients(m, top), quotients(m, scale))
            least = 11 if e == form[1] else max(11, 2 ** (form[0] - 1) + 1)
            for before in range(max(m - 50, least), m):
                self.assertEqual(quotients(before, top), quotients(before, scale), (form, row, before))

    def test_all_quotients_of_a_useless_row_are_wrong(self):
        self.assertEqual(count_wrong_print(B64, (0, 1, -3000, 0)), 3 * (2 ** 52 - 1))
        self.assertEqual(first_wrong_print(B64, (0, 1, -3000, 0)), 1074 * 2 ** 52 + 2 ** 52 + 1)
        self.assertEqual(first_wrong_print(B64, (-1074, 1, -3000, 0)), 11)


class FewestBits(unittest.TestCase):
    def test_small_formats_against_the_bits_one_by_one(self):
        for form in (*SMALL, (8, -12, 12), (11, 50, 52)):
            _, low, high = form
            for exponent in range(low, high + 1):
                bits = 1
                while wrong_by_words(form, cut_print_row(exponent, bits)):
                    bits += 1
                self.assertEqual(fewest_print_bits(form, exponent), bits, (form, exponent))
                for more in range(bits, bits + 4):
                    self.assertEqual(wrong_by_words(form, cut_print_row(exponent, more)), [])

    def test_great_formats(self):
        for form in GREAT:
            _, low, high = form
            for exponent in (low, -55, 0, 3, 55, high):
                if low <= exponent <= high:
                    bits = fewest_print_bits(form, exponent)
                    self.assertEqual(count_wrong_print(form, cut_print_row(exponent, bits)), 0)
                    if bits > 1:
                        self.assertGreater(count_wrong_print(form, cut_print_row(exponent, bits - 1)), 0)
        self.assertGreater(fewest_print_bits((128, -1200, 1200), 1200), MAX_ROWBITS)

    def test_without_a_fast_number_one_bit_is_enough(self):
        for form in ((1, -1, 1), (3, -2, 2)):
            for exponent in range(form[1], form[2] + 1):
                self.assertEqual(fewest_print_bits(form, exponent), 1)


if __name__ == "__main__":
    unittest.main()
