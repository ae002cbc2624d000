import copy
import random
import unittest

from numbertexts.bounds import MAX_ROW, MAX_ROWBITS
from numbertexts.errors import NotSound
from numbertexts.formats import code_of, count_of, told_format
from numbertexts.reading import read
from numbertexts.rows import cut_row, guarded_read, is_sound, plain_read, row_error
from slow_ways import SMALL_FORMATS, WAYS, any_values, power, read_by_words, worth

T = (3, -2, 2)
GREAT_FORMATS = (told_format("binary16"), told_format("binary64"), (128, -1200, 1200), (1, -1200, 1200))
# Positions of z are fractions with less than 200 bits behind the point here, so nothing lies this near above one.
TINY = power(2, -3000)

ROWS = (
    (-1, 25, -8, 1), (-1, 12, -7, 1), (0, 1, 0, 0), (1, 5, 1, 0), (1, 2, 2, 1), (2, 3, 5, 3), (0, 1, -1, 1), (1, 10, 0, 3),
    (-2, 40, -12, 2),
)
UNSOUND_ROWS = ((-1, 13, -7, 1), (0, 3, 0, 0), (2, 1, -3, 0), (0, 1, -3, 2), (-1, 1, 4, 3), (1, 7, 1, 3))


def ends_of(row):
    _, g, s, h = row
    return g * power(2, s), (g + h) * power(2, s)


def sound_by_words(row):
    lower, upper = ends_of(row)
    return lower <= power(10, row[0]) <= upper


class RowError(unittest.TestCase):
    def test_rows_at_the_limits(self):
        most = 2 ** MAX_ROWBITS - 1
        for item, limits in enumerate(((-MAX_ROW, MAX_ROW), (1, most), (-3000, 3000), (0, 3))):
            for limit, beyond in zip(limits, (limits[0] - 1, limits[1] + 1)):
                row = [7, 9, -4, 2]
                row[item] = limit
                self.assertIs(row_error(tuple(row)), None, row)
                row[item] = beyond
                self.assertEqual(row_error(tuple(row)), ("power", "factor", "shift", "height")[item], row)

    def test_each_item_wrong_in_turn(self):
        words = ("power", "factor", "shift", "height")
        for item in range(4):
            for value in any_values():
                if not isinstance(value, int) or isinstance(value, bool) or abs(value) > 9 ** 400:
                    row = [1, 1, 1, 1]
                    row[item] = value
                    self.assertEqual(row_error(tuple(row)), words[item], row)
                    # The first item that is wrong is told.
                    for later in range(item + 1, 4):
                        row[later] = None
                    self.assertEqual(row_error(tuple(row)), words[item], row)

    def test_what_is_no_row(self):
        for value in (*any_values(), [0, 1, 0, 0], (0, 1, 0), (0, 1, 0, 0, 0), ((0, 1, 0, 0),), "0100", {"power": 1}):
            if value != (1, 2, 3, 4):
                kept = copy.deepcopy(value)
                self.assertEqual(row_error(value), "row", value)
                self.assertEqual(value, kept)
        self.assertEqual(row_error((1, 2, 3, 4)), "height")


class Sound(unittest.TestCase):
    def test_at_both_ends_and_beside_them(self):
        for height in range(4):
            for exponent in range(-6, 7):
                for shift in (-14, -3, 0, 2):
                    near = int(power(10, exponent) / power(2, shift))
                    for factor in range(max(near - 5, 1), near + 3):
                        row = (exponent, factor, shift, height)
                        self.assertIs(is_sound(row), sound_by_words(row), row)

    def test_both_ends_belong_to_it(self):
        self.assertEqual([is_sound((1, factor, 1, 2)) for factor in (2, 3, 4, 5, 6)], [False, True, True, True, False])
        self.assertEqual([is_sound((0, factor, 0, 0)) for factor in (1, 2)], [True, False])
        self.assertEqual([is_sound((2, factor, 0, 3)) for factor in (96, 97, 100, 101)], [False, True, True, False])

    def test_great_powers(self):
        for exponent in (-400, -399, -37, 37, 400):
            for bits in (1, 64, 256):
                row = cut_row(exponent, bits)
                _, factor, shift, height = row
                self.assertIs(is_sound(row), True)
                self.assertIs(is_sound((exponent, factor, shift, 0)), height == 0)
                self.assertIs(is_sound((exponent, factor + 1, shift, height)), False)
        self.assertIs(is_sound((400, 1, 3000, 3)), False)
        self.assertIs(is_sound((-400, 1, -3000, 3)), False)


class CutRow(unittest.TestCase):
    def test_by_the_words(self):
        for exponent in (-400, -399, -55, -28, -27, -3, -2, -1, 0, 1, 2, 3, 27, 28, 110, 111, 399, 400):
            for bits in (1, 2, 3, 4, 5, 17, 53, 64, 128, 255, 256):
                row = cut_row(exponent, bits)
                self.assertIs(row_error(row), None, row)
                told, factor, shift, height = row
                self.assertEqual(told, exponent)
                self.assertTrue(2 ** (bits - 1) <= factor < 2 ** bits)
                worth_of = power(10, exponent)
                self.assertTrue(factor * power(2, shift) <= worth_of < (factor + 1) * power(2, shift))
                self.assertEqual(height, 0 if factor * power(2, shift) == worth_of else 1)
                self.assertIs(is_sound(row), True)

    def test_exact_ones(self):
        self.assertEqual(cut_row(0, 256), (0, 2 ** 255, -255, 0))
        self.assertEqual(cut_row(27, 63)[3], 0)
        self.assertEqual(cut_row(27, 62)[3], 1)
        self.assertEqual(cut_row(-1, 256)[3], 1)


class Runs(unittest.TestCase):
    def plain_by_words(self, form, way, row, number):
        if number == 0:
            return 0
        lower, _ = ends_of(row)
        return read_by_words(form, way, number * lower + (TINY if row[3] > 0 else 0))

    def test_plain_runs_of_small_formats(self):
        for form in SMALL_FORMATS:
            for way in WAYS:
                for row in (*ROWS, *UNSOUND_ROWS):
                    for number in (0, 1, 2, 3, 5, 8, 13, 14, 25, 63):
                        found = plain_read(form, way, row, number)
                        self.assertEqual(found, self.plain_by_words(form, way, row, number), (form, way, row, number))

    def test_guarded_runs_of_small_formats(self):
        slow = 0
        for form in SMALL_FORMATS:
            for way in WAYS:
                for row in ROWS:
                    for number in (0, 1, 2, 3, 5, 8, 13, 14, 25, 63):
                        lower, upper = ends_of(row)
                        code = read_by_words(form, way, number * lower)
                        told = code if read_by_words(form, way, number * upper) == code else None
                        self.assertEqual(guarded_read(form, way, row, number), told, (form, way, row, number))
                        self.assertTrue(told is None or told == read_by_words(form, way, worth((number, row[0]))))
                        slow += told is None
        self.assertGreater(slow, 200)

    def test_just_above_a_number_and_a_middle(self):
        # 1 * 2 ** 0 is the number with the code 4, 9 * 2 ** -3 lies half way to the code 5.
        self.assertEqual([plain_read(T, way, (0, 1, 0, 0), 1) for way in WAYS], [4, 4, 4, 4, 4])
        self.assertEqual([plain_read(T, way, (0, 1, 0, 1), 1) for way in WAYS], [4, 4, 4, 5, 5])
        self.assertEqual([plain_read(T, way, (0, 9, -3, 0), 1) for way in WAYS], [4, 5, 4, 5, 5])
        self.assertEqual([plain_read(T, way, (0, 9, -3, 1), 1) for way in WAYS], [5, 5, 4, 5, 5])
        self.assertEqual([plain_read(T, way, (0, 5, -2, 1), 1) for way in WAYS], [5, 5, 5, 6, 5])

    def test_beyond_the_greatest_number(self):
        for number, plain in ((28, [23, 23, 23, 23, 23]), (29, [23, 23, 23, 24, 23]), (30, [24, 24, 23, 24, 23]),
                              (32, [24, 24, 23, 24, 23]), (2 ** 128 - 1, [24, 24, 23, 24, 23])):
            self.assertEqual([plain_read(T, way, (0, 1, 0, 0), number) for way in WAYS], plain)
            self.assertEqual([guarded_read(T, way, (0, 1, 0, 0), number) for way in WAYS], plain)
        self.assertEqual([plain_read(T, way, (0, 1, 0, 1), 28) for way in WAYS], [23, 23, 23, 24, 23])
        self.assertEqual([plain_read(T, way, (0, 1, 0, 2), 99) for way in WAYS], [24, 24, 23, 24, 23])
        # The greatest number of this format has an even code.
        self.assertEqual([plain_read((1, -1, 0), way, (0, 1, 0, 1), 1) for way in WAYS], [2, 2, 2, 3, 3])
        self.assertEqual([plain_read((1, -1, 0), way, (0, 1, 0, 1), 9) for way in WAYS], [3, 3, 2, 3, 3])
        self.assertEqual([plain_read((1, -1, 0), way, (0, 1, 0, 0), 1) for way in WAYS], [2, 2, 2, 2, 2])

    def test_the_number_0(self):
        for form in (*SMALL_FORMATS, *GREAT_FORMATS):
            for way in WAYS:
                for row in (*ROWS, *UNSOUND_ROWS):
                    self.assertEqual(plain_read(form, way, row, 0), 0)
                    if sound_by_words(row):
                        self.assertEqual(guarded_read(form, way, row, 0), 0)

    def test_rows_that_are_not_sound(self):
        for row in (*UNSOUND_ROWS, (400, 1, -3000, 0), (-400, 2, 3000, 3)):
            for number in (0, 1, 13, 2 ** 128 - 1):
                with self.assertRaises(NotSound) as caught:
                    guarded_read(T, "even", row, number)
                self.assertEqual(caught.exception.power, row[0])

    def test_great_formats(self):
        picker = random.Random(15)
        for form in GREAT_FORMATS:
            for way in WAYS:
                for exponent in (-400, -330, -22, -1, 0, 5, 22, 23, 300, 400):
                    for bits in (3, 64, 128, 256):
                        row = cut_row(exponent, bits)
                        for number in (1, 7, 2 ** 53 + 1, 2 ** 128 - 1, picker.randrange(2 ** 64)):
                            code = read(form, way, (number, exponent))
                            told = guarded_read(form, way, row, number)
                            if row[3] == 0:
                                self.assertEqual(plain_read(form, way, row, number), code)
                                self.assertEqual(told, code)
                            if told is not None:
                                self.assertEqual(told, code, (form, way, row, number))
                                self.assertEqual(plain_read(form, way, row, number), code, (form, way, row, number))

    def test_great_numbers_just_above(self):
        form = GREAT_FORMATS[1]
        code = code_of(form, 5, 0)
        row = (0, 5, 0, 1)
        self.assertEqual([plain_read(form, way, row, 1) - code for way in WAYS], [0, 0, 0, 1, 1])
        beyond = count_of(form)
        self.assertEqual([plain_read(form, way, (0, 1, 1024, 1), 3) for way in WAYS],
                         [beyond, beyond, beyond - 1, beyond, beyond - 1])


if __name__ == "__main__":
    unittest.main()
