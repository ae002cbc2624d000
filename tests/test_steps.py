import unittest

from numbertexts.bounds import MAX_ROW, MAX_ROWBITS, MAX_STEP
from numbertexts.formats import told_format
from numbertexts.reading import read
from numbertexts.rows import cut_row, is_sound, plain_read, row_error
from numbertexts.steps import (
    corrected_row, correction, fewest_step_bits, greatest_step, step_faults, stepped_row)
from numbertexts.wrongs import first_wrong
from slow_ways import WAYS, power

T = (3, -2, 2)
B64 = told_format("binary64")
SMALL = (T, (1, -3, 4), (2, -4, -1), (4, -3, 3), (5, -9, -7))
GREAT = (told_format("binary16"), B64, (128, -1200, 1200), (1, -1200, 1200))
SOME_POWERS = (*range(-31, 32), -400, -399, -398, -379, -378, -377, -200, 110, 111, 377, 378, 379, 399, 400)


def cut_by_words(real, bits):
    """(g, s) with so many bits of g, bit by bit."""
    s = 0
    while real >= power(2, bits + s):
        s += 1
    while real < power(2, bits + s - 1):
        s -= 1
    g = real / power(2, s)
    return g.numerator // g.denominator, s


def stepped_by_words(step, bits, exponent):
    """The row of the stepped table by the words of point 21."""
    i, r = exponent // step, exponent % step
    g0, s0 = cut_by_words(power(10, step * i), bits)
    g, c = g0 * 10 ** r, 0
    while g >= 2 ** bits:
        g, c = g // 2, c + 1
    s = s0 + c
    return exponent, g, s, 0 if g * power(2, s) == power(10, exponent) else 3


def is_faulty(form, way, word, row):
    return any(plain_read(form, way, row, number) != read(form, way, (number, row[0])) for number in range(1, 2 ** word))


def faults_by_words(form, way, word, step, bits, low, high):
    return tuple(exponent for exponent in range(low, high + 1)
                 if is_faulty(form, way, word, stepped_row(step, bits, exponent)))


class Rows(unittest.TestCase):
    def test_by_the_words(self):
        for step in range(1, MAX_STEP + 1):
            for k, exponent in enumerate(SOME_POWERS):
                bits = (1, 2, 7, 64, 128, MAX_ROWBITS - 1)[(k + step) % 6]
                row = stepped_row(step, bits, exponent)
                self.assertEqual(row, stepped_by_words(step, bits, exponent), (step, bits, exponent))
                self.assertIs(row_error(row), None)
                self.assertIs(is_sound(row), True)

    def test_corrections(self):
        seen = {}
        for step in (1, 2, 3, 5, 9, 16, 27):
            for bits in (1, 2, 3, 8, 63, 64, 255):
                for exponent in SOME_POWERS:
                    told, g, s, h = stepped_row(step, bits, exponent)
                    best = power(10, exponent) / power(2, s)
                    n = best.numerator // best.denominator
                    self.assertEqual(correction(step, bits, exponent), n - g, (step, bits, exponent))
                    self.assertIn(n - g, (0, 1, 2))
                    wanted = (exponent, n, s, 0 if n == best else 1)
                    self.assertEqual(corrected_row(step, bits, exponent), wanted, (step, bits, exponent))
                    self.assertIs(is_sound(wanted), True)
                    seen[n - g] = seen.get(n - g, 0) + 1
        self.assertGreater(min(seen[more] for more in (0, 1)), 50)

    def test_with_the_step_1_rows_are_cut_rows(self):
        for exponent in SOME_POWERS:
            for bits in (1, 64, 255):
                told, g, s, h = cut_row(exponent, bits)
                self.assertEqual(stepped_row(1, bits, exponent), (told, g, s, 3 * h))
                self.assertEqual(correction(1, bits, exponent), 0)
                self.assertEqual(corrected_row(1, bits, exponent), (told, g, s, h))

    def test_a_base_below_the_least_row(self):
        # -400 is 5 above 27 * -15.
        self.assertEqual(stepped_row(27, 64, -MAX_ROW), stepped_by_words(27, 64, -MAX_ROW))
        g0, s0 = cut_by_words(power(10, -405), 64)
        _, g, s, _ = stepped_row(27, 64, -400)
        self.assertEqual(g, g0 * 10 ** 5 >> (s - s0))

    def test_n_may_have_one_bit_more(self):
        found = [(step, bits, exponent) for step in range(2, 28) for bits in (1, 2, 3, 4) for exponent in range(-40, 41)
                 if corrected_row(step, bits, exponent)[1].bit_length() > bits]
        self.assertGreater(len(found), 3)
        for step, bits, exponent in found:
            self.assertIn(corrected_row(step, bits, exponent)[1], (2 ** bits, 2 ** bits + 1))

    def test_the_power_itself(self):
        self.assertEqual([stepped_row(27, 63, 27)[3], stepped_row(27, 62, 27)[3], stepped_row(27, 63, 28)[3]], [0, 3, 3])
        self.assertEqual([stepped_row(5, 70, exponent)[3] for exponent in (0, 4, 25, 29, 30)], [0, 0, 0, 0, 0])
        # The product is cut, but what is cut off is 0.
        self.assertEqual(stepped_row(2, 3, 1), (1, 5, 1, 0))


class Faults(unittest.TestCase):
    def test_small_words_against_going_through_all_numbers(self):
        seen = 0
        for form in SMALL:
            for way in WAYS:
                for step in (1, 2, 3, 27):
                    for bits in (1, 4, 8, 20):
                        told = (form, way, 4, step, bits, -4, 3)
                        faults = step_faults(*told)
                        self.assertEqual(faults, faults_by_words(*told), told)
                        seen += 0 < len(faults) < 8
        self.assertGreater(seen, 100)

    def test_great_formats_against_first_wrong(self):
        for k, form in enumerate(GREAT):
            for low, high, word, bits in ((-400, -390, 128, 200), (-30, -20, 64, 121), (-3, 30, 24, 60), (380, 400, 64, 118)):
                way, step = WAYS[k], (1, 7, 16, 27)[k]
                wanted = tuple(exponent for exponent in range(low, high + 1)
                               if first_wrong(form, way, word, stepped_row(step, bits, exponent)) is not None)
                self.assertEqual(step_faults(form, way, word, step, bits, low, high), wanted, (form, low))

    def test_one_power_and_many(self):
        self.assertEqual(step_faults(T, "even", 3, 3, 1, -1, -1), (-1,))
        self.assertEqual(step_faults(T, "even", 3, 3, 8, 0, 0), ())
        self.assertEqual(len(step_faults(B64, "zero", 64, 4, 3, -39, 0)), 39)


class Searches(unittest.TestCase):
    def test_greatest_step_against_all_steps(self):
        seen = set()
        for form in SMALL:
            for way in WAYS:
                for bits in (2, 5, 7, 9, 12):
                    for low, high in ((-1, 4), (3, 5), (-6, -4)):
                        fitting = [step for step in range(1, MAX_STEP + 1)
                                   if not faults_by_words(form, way, 3, step, bits, low, high)]
                        wanted = max(fitting) if fitting else None
                        self.assertEqual(greatest_step(form, way, 3, bits, low, high), wanted, (form, way, bits, low))
                        seen.add(wanted)
        self.assertGreater(len(seen), 3)

    def test_fewest_step_bits_against_all_bits(self):
        seen = set()
        for form in SMALL[:3]:
            for way in WAYS:
                for step in (1, 3, 5):
                    for low, high in ((-1, 2), (2, 6), (-5, -5)):
                        wanted = None
                        for bits in range(1, MAX_ROWBITS):
                            if not faults_by_words(form, way, 3, step, bits, low, high):
                                wanted = bits
                                break
                        self.assertEqual(fewest_step_bits(form, way, 3, step, low, high), wanted, (form, way, step, low))
                        seen.add(wanted)
        self.assertIn(None, seen)
        self.assertGreater(len(seen), 3)

    def test_great_formats(self):
        for form, word in ((B64, 64), (told_format("binary16"), 40), ((1, -1200, 1200), 64)):
            for low, high in ((-300, -289), (28, 39), (390, 400)):
                bits = fewest_step_bits(form, "even", word, 9, low, high)
                self.assertEqual(step_faults(form, "even", word, 9, bits, low, high), ())
                for fewer in (bits - 1, bits // 2):
                    if fewer > 0:
                        self.assertNotEqual(step_faults(form, "even", word, 9, fewer, low, high), ())
                step = greatest_step(form, "even", word, bits, low, high)
                self.assertGreaterEqual(step, 9)
                self.assertEqual(step_faults(form, "even", word, step, bits, low, high), ())
                if step < MAX_STEP:
                    self.assertNotEqual(step_faults(form, "even", word, step + 1, bits, low, high), ())

    def test_the_step_1_may_be_the_only_one(self):
        told = ((128, -1200, 1200), "zero", 64)
        self.assertEqual(greatest_step(*told, 195, -40, -29), 1)
        fitting = [step for step in range(1, MAX_STEP + 1) if step_faults(*told, step, 195, -40, -29) == ()]
        self.assertEqual(fitting, [1])

    def test_none(self):
        # 5 * 0.1 is a number of the format, just below which another code is read by "zero".
        self.assertIs(fewest_step_bits(B64, "zero", 64, 3, -1, 10), None)
        self.assertIs(greatest_step(B64, "zero", 64, 255, -1, 10), None)
        self.assertIs(greatest_step(B64, "even", 64, 40, 300, 300), None)


if __name__ == "__main__":
    unittest.main()
