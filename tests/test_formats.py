import copy
import unittest

from numbertexts.bounds import MAX_BITS, MAX_EXP
from numbertexts.errors import NoCode, NoFormat
from numbertexts.formats import code_of, count_of, format_error, is_format, told_format, value_of
from slow_ways import SMALL_FORMATS, any_values, numbers_of, power

GREAT_FORMATS = (
    (128, -1200, 1200), (128, 1200, 1200), (128, -1200, -1200), (1, -1200, 1200), (53, -1074, 971), (24, -149, 104),
)


class FormatError(unittest.TestCase):
    def check_error(self, value, error):
        self.assertEqual(format_error(value), error, value)
        self.assertIs(is_format(value), error is None, value)

    def test_formats_at_the_limits(self):
        for value in (*SMALL_FORMATS, *GREAT_FORMATS, (MAX_BITS, -MAX_EXP, MAX_EXP), (1, -MAX_EXP, -MAX_EXP)):
            self.check_error(value, None)

    def test_one_beyond_the_limits(self):
        self.check_error((0, -2, 2), "precision")
        self.check_error((129, -2, 2), "precision")
        self.check_error((3, -1201, 2), "low")
        self.check_error((3, 1201, 1201), "low")
        self.check_error((3, -2, 1201), "high")
        self.check_error((3, -2, -3), "high")
        self.check_error((3, -1200, -1201), "high")

    def test_each_item_of_another_kind(self):
        for item in (None, True, False, "3", "", (), (3,), [3], {}, {"a": 1}, 10 ** 1400, -10 ** 1400):
            self.check_error((item, -2, 2), "precision")
            self.check_error((3, item, 2), "low")
            self.check_error((3, -2, item), "high")

    def test_the_first_word_is_told(self):
        self.check_error((0, 1201, None), "precision")
        self.check_error((True, None, None), "precision")
        self.check_error((3, 1201, 1202), "low")
        self.check_error((3, None, None), "low")
        self.check_error((0, 5, 1), "precision")

    def test_true_is_not_one(self):
        self.check_error((1, 0, 1), None)
        self.check_error((True, 0, 1), "precision")
        self.check_error((1, False, 1), "low")
        self.check_error((1, 0, True), "high")

    def test_what_is_no_tuple_of_three_items(self):
        for value in ((), (3,), (3, -2), (3, -2, 2, 0), [3, -2, 2], ((3, -2, 2),), {"p": 3}, "abc", 3, None):
            self.check_error(value, "format")

    def test_any_value(self):
        for value in any_values():
            kept = copy.deepcopy(value)
            self.check_error(value, None if value == (3, -2, 2) else "format")
            self.assertEqual(value, kept)


class ToldFormat(unittest.TestCase):
    def test_the_four_names(self):
        self.assertEqual(told_format("binary16"), (11, -24, 5))
        self.assertEqual(told_format("bfloat16"), (8, -133, 120))
        self.assertEqual(told_format("binary32"), (24, -149, 104))
        self.assertEqual(told_format("binary64"), (53, -1074, 971))

    def test_any_other_value(self):
        others = [value for value in any_values() if value != "binary16"]
        for value in (*others, "binary128", "Binary16", "binary16 ", "BFLOAT16", ["binary16"], ("binary16",)):
            with self.assertRaises(NoFormat) as caught:
                told_format(value)
            self.assertIs(caught.exception.name, value)


class Codes(unittest.TestCase):
    def test_all_codes_of_small_formats(self):
        for form in SMALL_FORMATS:
            p, low, high = form
            numbers = numbers_of(form)
            self.assertEqual(count_of(form), len(numbers), form)
            for code, number in enumerate(numbers):
                m, e = value_of(form, code)
                self.assertEqual(m * power(2, e), number, (form, code))
                self.assertTrue(low <= e <= high and 0 <= m < 2 ** p, (form, code))
                self.assertTrue(m >= 2 ** (p - 1) or e == low, (form, code))
                self.assertEqual((e - low) * 2 ** (p - 1) + m, code, (form, code))
                self.assertEqual(code_of(form, m, e), code, (form, code))

    def test_the_ends_of_great_formats(self):
        for form in GREAT_FORMATS:
            p, low, high = form
            half = 2 ** (p - 1)
            last = count_of(form) - 1
            self.assertEqual(last + 1, (high - low + 2) * half)
            self.assertEqual(value_of(form, 0), (0, low))
            self.assertEqual(value_of(form, 1), (1, low))
            self.assertEqual(value_of(form, half), (half, low))
            self.assertEqual(value_of(form, 2 * half - 1), (2 * half - 1, low))
            self.assertEqual(value_of(form, last), (2 * half - 1, high))
            if high > low:
                self.assertEqual(value_of(form, 2 * half), (half, low + 1))
                self.assertEqual(value_of(form, last - half), (2 * half - 1, high - 1))
            for code in (0, 1, half, 2 * half - 1, last // 2, last - half, last - 1, last):
                m, e = value_of(form, code)
                self.assertEqual(code_of(form, m, e), code)

    def test_no_code(self):
        for form in (*SMALL_FORMATS, *GREAT_FORMATS):
            count = count_of(form)
            for value in (count, count + 1, -1, -count, True, False, None, "1", (1,), [0], {}, 10 ** 1400, -10 ** 1400):
                with self.assertRaises(NoCode) as caught:
                    value_of(form, value)
                self.assertIs(caught.exception.code, value)

    def test_any_value_as_a_code(self):
        for value in any_values():
            if isinstance(value, int) and not isinstance(value, bool) and 0 <= value < 24:
                self.assertEqual(len(value_of((3, -2, 2), value)), 2)
            else:
                with self.assertRaises(NoCode) as caught:
                    value_of((3, -2, 2), value)
                self.assertIs(caught.exception.code, value)


class CodeOf(unittest.TestCase):
    def test_numbers_written_in_other_ways(self):
        for form in SMALL_FORMATS:
            for code, number in enumerate(numbers_of(form)):
                for e in range(-15, 15):
                    m = number / power(2, e)
                    if m.denominator == 1:
                        self.assertEqual(code_of(form, m.numerator, e), code, (form, code, e))

    def test_great_m_and_far_e(self):
        for form in GREAT_FORMATS:
            last = count_of(form) - 1
            for code in (1, last // 3, last):
                m, e = value_of(form, code)
                for shift in (1, 100, 2000, 3700):
                    self.assertEqual(code_of(form, m << shift, e - shift), code)
        self.assertEqual(code_of((1, -1200, 1200), 2 ** 4000, -4000), 1201)
        self.assertEqual(code_of((1, -1200, 1200), 2 ** 4000, -5000), 201)

    def test_all_small_m_against_the_numbers(self):
        for form in SMALL_FORMATS:
            codes = {number: code for code, number in enumerate(numbers_of(form))}
            for m in range(80):
                for e in range(-12, 12):
                    self.assertEqual(code_of(form, m, e), codes.get(m * power(2, e)), (form, m, e))

    def test_between_two_numbers_below_and_beyond(self):
        form = (53, -1074, 971)
        self.assertIsNone(code_of(form, 2 ** 53 + 1, 0))
        self.assertEqual(value_of(form, code_of(form, 2 ** 53 + 2, 0)), (2 ** 52 + 1, 1))
        self.assertIsNone(code_of(form, 1, -1075))
        self.assertIsNone(code_of(form, 3, -1075))
        self.assertEqual(code_of(form, 2, -1075), 1)
        self.assertIsNone(code_of(form, 1, -5000))
        self.assertIsNone(code_of(form, 1, 1024))
        self.assertIsNone(code_of(form, 2 ** 53, 971))
        self.assertEqual(code_of(form, 2 ** 53 - 1, 971), count_of(form) - 1)
        self.assertIsNone(code_of(form, 2 ** 4000, 5000))
        self.assertIsNone(code_of(form, 2 ** 4000 - 1, -4000))

    def test_zero_has_the_code_zero_however_it_is_written(self):
        for form in (*SMALL_FORMATS, *GREAT_FORMATS):
            for e in (-5000, -3, 0, 3, 5000):
                self.assertEqual(code_of(form, 0, e), 0)


if __name__ == "__main__":
    unittest.main()
