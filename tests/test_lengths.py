import random
import unittest

from numbertexts.bounds import MAX_TRIP
from numbertexts.errors import NoIndex
from numbertexts.formats import code_of, count_of, told_format, value_of
from numbertexts.lengths import code_with_length, count_length, length_of, longest_length, up_to
from numbertexts.printing import shortest
from numbertexts.stretches import sparse_stretches
from numbertexts.trips import digits_enough, least_lost
from slow_ways import SMALL_FORMATS, power, real_range, wrong_indexes

T = (3, -2, 2)
B16, B32, B64 = (told_format(name) for name in ("binary16", "binary32", "binary64"))
SMALL = (*SMALL_FORMATS, (1, -3, 4), (2, -3, 5), (4, -6, 2), (1, -12, 12), (2, -8, 12), (6, -5, 8), (7, 6, 12), (8, -3, 3),
         (1, 1200, 1200), (1, -1200, -1200), (2, 1190, 1200), (3, -1200, -1190))
GREAT = (B32, B64, (128, -1200, 1200), (1, -1200, 1200), (113, -60, 90), (64, 900, 1200))


def lengths_of(form):
    """The lengths of all codes, None for the code 0."""
    return [None, *(len(str(shortest(form, "even", code)[0])) for code in range(1, count_of(form)))]


def is_at_most(form, code, digits):
    """Whether some decimal with so many digits is read as the code, by the words of point 24."""
    lower, has_lower, upper, has_upper = real_range(form, "even", code)
    for q in range(-20, 12):
        step = power(10, q)
        d = -(-lower // step)
        if d * step == lower and not has_lower:
            d += 1
        if d < 10 ** digits and (d * step < upper or d * step == upper and has_upper):
            return True
    return False


class SmallFormats(unittest.TestCase):
    def test_the_length_by_the_words(self):
        for form in (*SMALL_FORMATS, (1, -3, 4), (2, -3, 5), (4, -6, 2)):
            for code in range(1, count_of(form)):
                length = length_of(form, code)
                self.assertTrue(is_at_most(form, code, length), (form, code))
                self.assertFalse(length > 1 and is_at_most(form, code, length - 1), (form, code))

    def test_all_codes_against_shortest(self):
        for form in SMALL:
            lengths = lengths_of(form)
            self.assertEqual([length_of(form, code) for code in range(1, count_of(form))], lengths[1:])
            self.assertEqual(longest_length(form), max(lengths[1:]), form)
            for digits in (*range(1, max(lengths[1:]) + 2), MAX_TRIP):
                codes = [code for code in range(1, count_of(form)) if lengths[code] == digits]
                self.assertEqual(count_length(form, digits), len(codes), (form, digits))
                some = range(len(codes)) if len(codes) < 60 else (0, 1, len(codes) // 2, len(codes) - 1)
                self.assertEqual([code_with_length(form, digits, index) for index in some], [codes[index] for index in some])
                self.check_up_to(form, digits, lengths)

    def check_up_to(self, form, digits, lengths):
        many = 0
        step = max(len(lengths) // 60, 1)
        for code in range(len(lengths)):
            many += code > 0 and lengths[code] <= digits
            if code % step == 0 or code == len(lengths) - 1:
                self.assertEqual(up_to(form, digits, code), many, (form, digits, code))

    def test_formats_of_one_exponent_all_over(self):
        for p in (1, 2, 3, 5):
            for low in range(-40, 41):
                form = (p, low, low + 1)
                lengths = lengths_of(form)
                self.assertEqual(longest_length(form), max(lengths[1:]), form)
                for digits in range(1, max(lengths[1:]) + 1):
                    self.assertEqual(count_length(form, digits), lengths.count(digits), (form, digits))
                    self.assertEqual(up_to(form, digits, count_of(form) - 1),
                                     sum(lengths.count(fewer) for fewer in range(1, digits + 1)), (form, digits))

    def test_what_is_no_index(self):
        for form, digits in ((T, 1), (T, 2), (T, 3), (B64, 17), (B64, MAX_TRIP)):
            for index in wrong_indexes(count_length(form, digits)):
                with self.assertRaises(NoIndex) as caught:
                    code_with_length(form, digits, index)
                self.assertIs(caught.exception.index, index)

    def test_binary16(self):
        lengths = lengths_of(B16)
        for digits in range(1, 6):
            codes = [code for code in range(1, count_of(B16)) if lengths[code] == digits]
            self.assertEqual(count_length(B16, digits), len(codes))
            for index in random.Random(digits).sample(range(len(codes)), 20):
                self.assertEqual(code_with_length(B16, digits, index), codes[index])
        self.assertEqual(longest_length(B16), max(lengths[1:]))


class GreatFormats(unittest.TestCase):
    def some_codes(self, form):
        """Codes at the ends, at powers of two and of ten, and any."""
        p, low, high = form
        picker = random.Random(p)
        last = count_of(form) - 1
        codes = [0, 1, 2, 3, last - 1, last, *(picker.randint(0, last) for _ in range(4))]
        for e in {low, (low + high) // 2, max(low, min(high, 0)), high}:
            code = ((e - low) << (p - 1)) + (1 << (p - 1))
            codes += [code - 1, code, code + 1]
        return sorted({min(max(code, 0), last) for code in codes})

    def test_up_to_and_count_length_agree(self):
        for form in GREAT:
            last = count_of(form) - 1
            for digits in (1, 2, 9, 16, 17, 39, 40):
                fewer = up_to(form, digits - 1, last) if digits > 1 else 0
                self.assertEqual(up_to(form, digits, last), fewer + count_length(form, digits), (form, digits))
            self.assertEqual(up_to(form, longest_length(form), last), last)
            self.assertLess(up_to(form, longest_length(form) - 1, last) if longest_length(form) > 1 else 0, last)

    def test_up_to_counts_each_code(self):
        for form in GREAT:
            for code in self.some_codes(form):
                if code > 0:
                    length = length_of(form, code)
                    self.assertLessEqual(length, longest_length(form))
                    for digits in {max(length - 1, 1), length, min(length + 1, MAX_TRIP), 1, 17}:
                        step = up_to(form, digits, code) - up_to(form, digits, code - 1)
                        self.assertEqual(step, 1 if length <= digits else 0, (form, code, digits))
                else:
                    self.assertEqual(up_to(form, 17, code), 0)

    def test_code_with_length_agrees(self):
        for form in GREAT:
            for digits in (1, 2, 8, 9, 15, 16, 17, 38, 39):
                many = count_length(form, digits)
                for index in sorted({0, many // 3, many // 2, many - 1} if many > 0 else set()):
                    code = code_with_length(form, digits, index)
                    self.assertEqual(length_of(form, code), digits, (form, digits, index))
                    fewer = up_to(form, digits - 1, code) if digits > 1 else 0
                    self.assertEqual(up_to(form, digits, code) - fewer, index + 1, (form, digits, index))

    def test_longest_length(self):
        for form in (*GREAT, *SMALL):
            self.assertLessEqual(longest_length(form), digits_enough(form), form)
        self.assertEqual([longest_length(form) for form in (B16, B32, B64)], [5, 9, 17])
        # Printed with one digit 0.25 is lost, but it is read from 0.3.
        self.assertEqual([length_of((2, -4, -1), 4), least_lost((2, -4, -1), 1), longest_length((2, -4, -1))], [1, 4, 2])

    def test_a_power_of_two_lies_nearer_to_its_lower_neighbour(self):
        for form in ((2, -8, 12), (5, -3, 20), B32):
            p, low, high = form
            for e in range(low + 1, high + 1):
                code = code_of(form, 2 ** (p - 1), e)
                length = length_of(form, code)
                self.assertEqual(up_to(form, length, code) - up_to(form, length, code - 1), 1)
                if length > 1:
                    self.assertEqual(up_to(form, length - 1, code), up_to(form, length - 1, code - 1))


class Stretches(unittest.TestCase):
    def test_outside_of_them_all_codes_are_short(self):
        for form in (*SMALL_FORMATS, (5, -3, 5), (1, -12, 12)):
            for digits in (1, 2, 3):
                inside = set()
                for e, first, last, num, den in sparse_stretches(form, digits):
                    codes = [code_of(form, m, e) for m in range(first, last + 1)]
                    self.assertEqual([value_of(form, code) for code in codes], [(m, e) for m in range(first, last + 1)])
                    self.assertFalse(inside & set(codes))
                    inside |= set(codes)
                for code in range(1, count_of(form)):
                    self.assertTrue(code in inside or length_of(form, code) <= digits, (form, digits, code))


if __name__ == "__main__":
    unittest.main()
