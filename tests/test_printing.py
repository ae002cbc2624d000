import random
import unittest

from numbertexts.decimals import compare, is_decimal, plain_decimal
from numbertexts.formats import code_of, count_of, told_format, value_of
from numbertexts.printing import exact, fixed, rounded, shortest
from numbertexts.reading import read
from slow_ways import (
    SMALL_FORMATS, WAYS, decimal_of, lies_in, nearest_even, numbers_of, power, real_range, rounded_by_words, worth)

T = (3, -2, 2)
B16 = told_format("binary16")
B64 = told_format("binary64")
GREAT = (B16, told_format("bfloat16"), B64, (128, -1200, 1200), (1, -1200, 1200), (113, -1000, 900))


def value_at(form, code):
    m, e = value_of(form, code)
    return m * power(2, e)


def decimals_within(form, way, code, digits):
    """All plain decimals with so many digits in the range of the code; far above the number none is nearest."""
    span = real_range(form, way, code)
    lower, has_lower, upper, has_upper = span
    most = 20 * (lower + 1) if upper is None else upper
    found = []
    for q in range(-10, 6):
        step = power(10, q)
        first, last = max(lower // step, 10 ** (digits - 1)), min(most // step + 1, 10 ** digits - 1)
        for d in range(int(first), int(last) + 1):
            if d % 10 != 0 and lies_in(d * step, span):
                found.append((d, q))
    return found


def shortest_by_trying(form, way, code):
    """The shortest decimal by the words of section 4, going through the decimals in the range."""
    if code == 0:
        return (0, 0)
    lower, _, upper, _ = real_range(form, way, code)
    if lower == upper:
        d, q = decimal_of(lower)
        while d % 10 == 0:
            d, q = d // 10, q + 1
        return (d, q)
    digits = 1
    while not decimals_within(form, way, code, digits):
        digits += 1
    number = numbers_of(form)[code]
    found = decimals_within(form, way, code, digits)
    return min(found, key=lambda decimal: (abs(worth(decimal) - number), decimal[0] % 2))


def some_codes(form, many=8):
    """Codes at powers of two, the least and the greatest ones, and any ones."""
    p, low, high = form
    half = 2 ** (p - 1)
    last = count_of(form) - 1
    picker = random.Random(p)
    picked = [0, 1, 2, 3, 7, half - 1, half, half + 1, 2 * half - 1, 2 * half, 2 * half + 1, last - half + 1, last - half,
              last - 1, last, last // 2, last // 2 // half * half, *(picker.randrange(last + 1) for _ in range(many))]
    return sorted({code for code in picked if 0 <= code <= last})


class Shortest(unittest.TestCase):
    def test_all_codes_of_small_formats(self):
        for form in (*SMALL_FORMATS, (4, 3, 6), (4, -6, -3), (1, -6, 9)):
            for way in WAYS:
                for code in range(count_of(form)):
                    found = shortest(form, way, code)
                    self.assertEqual(found, shortest_by_trying(form, way, code), (form, way, code))
                    self.assertIs(type(found), tuple)

    def test_of_two_that_are_equally_near_the_even_one(self):
        ties = 0
        for form in ((6, -7, 7), (5, -9, 6)):
            for way in WAYS:
                for code in range(1, count_of(form)):
                    d, q = shortest(form, way, code)
                    number, step = value_at(form, code), power(10, q)
                    for other in (d - 1, d + 1):
                        if abs(other * step - number) == abs(d * step - number):
                            span = real_range(form, way, code)
                            if lies_in(other * step, span):
                                ties += 1
                                self.assertEqual(d % 2, 0, (form, way, code))
        self.assertGreater(ties, 4)

    def test_it_is_read_as_the_code_and_nothing_shorter_is(self):
        for form in GREAT:
            for way in WAYS:
                for code in some_codes(form):
                    self.check_shortest(form, way, code)

    def check_shortest(self, form, way, code):
        decimal = shortest(form, way, code)
        d, q = decimal
        self.assertEqual(read(form, way, decimal), code, (form, way, code))
        self.assertEqual(plain_decimal(decimal), decimal)
        digits = len(str(d))
        if digits > 1:
            # Of all that has one digit less the nearest ones below and above the number are tried.
            t = q + digits - 1
            step = power(10, t + 2 - digits)
            below = int(value_at(form, code) // step)
            for n in (below, below + 1):
                self.assertNotEqual(read(form, way, decimal_of(n * step)), code, (form, way, code))
        if code > 0:
            error = abs(worth(decimal) - value_at(form, code))
            for other in ((d - 1, q), (d + 1, q)):
                if read(form, way, other) == code:
                    self.assertLessEqual(error, abs(worth(other) - value_at(form, code)))

    def test_known_ones(self):
        self.assertEqual(shortest(B64, "even", 1), (5, -324))
        self.assertEqual(shortest(B64, "even", count_of(B64) - 1), (17976931348623157, 292))
        self.assertEqual(shortest(B64, "even", 2 ** 52), (22250738585072014, -324))
        self.assertEqual(shortest(B64, "even", 2 ** 52 - 1), (2225073858507201, -323))
        self.assertEqual(shortest(B16, "even", count_of(B16) - 1), (655, 2))
        # The same as Python's own way.
        picker = random.Random(14)
        for _ in range(300):
            code = picker.randrange(1, count_of(B64))
            number = value_at(B64, code)
            self.assertEqual(worth(shortest(B64, "even", code)), worth(decimal_from_text(repr(float(number)))))

    def test_by_odd_an_even_code_has_its_exact_decimal_alone(self):
        for form in GREAT:
            for code in (2, 4, count_of(form) // 2 // 2 * 2):
                self.assertEqual(shortest(form, "odd", code), exact(form, code))

    def test_without_an_upper_end(self):
        self.assertEqual(shortest((1, -1, 0), "zero", 2), (1, 0))
        self.assertEqual(shortest(B64, "zero", count_of(B64) - 1), (2, 308))
        self.assertEqual(shortest(B64, "odd", count_of(B64) - 1), (2, 308))


def decimal_from_text(text):
    """The decimal of a text that Python tells for a float."""
    head, _, tail = text.partition("e")
    front, _, back = head.partition(".")
    return (int(front + back), int(tail or 0) - len(back))


class Exact(unittest.TestCase):
    def test_the_value(self):
        for form in (*SMALL_FORMATS, *GREAT, (20, -3, 40)):
            for code in range(count_of(form)) if form in SMALL_FORMATS else some_codes(form):
                decimal = exact(form, code)
                self.assertEqual(worth(decimal), value_at(form, code), (form, code))
                self.assertTrue(decimal == (0, 0) or decimal[0] % 10 != 0, (form, code))
                self.assertIs(is_decimal(decimal), True)

    def test_zeros_at_the_end(self):
        form = (20, -3, 40)
        for n, told in ((1000, (1, 3)), (5 ** 7, (78125, 0)), (5 ** 7 * 2 ** 9, (4, 7)), (15, (15, 0)), (50, (5, 1))):
            self.assertEqual(exact(form, code_of(form, n, 0)), told)


class Rounded(unittest.TestCase):
    def test_small_formats_by_the_words(self):
        for form in SMALL_FORMATS:
            for code in range(1, count_of(form)):
                for digits in (1, 2, 3, 4, 7, 20):
                    found = rounded(form, code, digits)
                    self.assertEqual(worth(found), rounded_by_words(value_at(form, code), digits), (form, code, digits))
                    self.assertNotEqual(found[0] % 10, 0)

    def test_great_formats_by_the_words(self):
        for form in GREAT:
            for code in some_codes(form, 3)[1:]:
                for digits in (1, 2, 17, 40, 600, 1299, 1300):
                    found = rounded(form, code, digits)
                    self.assertEqual(worth(found), rounded_by_words(value_at(form, code), digits), (form, code, digits))
                    self.assertNotEqual(found[0] % 10, 0)

    def test_code_0(self):
        for form in (*SMALL_FORMATS, *GREAT):
            for digits in (1, 2, 1300):
                self.assertEqual(rounded(form, 0, digits), (0, 0))

    def test_as_many_digits_as_the_value_has_and_more(self):
        for form in (*SMALL_FORMATS, *GREAT):
            for code in some_codes(form, 3)[1:]:
                many = len(str(exact(form, code)[0]))
                for digits in (many, many + 1, 1300):
                    self.assertEqual(rounded(form, code, digits), exact(form, code))
                if many > 1:
                    self.assertNotEqual(rounded(form, code, many - 1), exact(form, code))

    def test_ties_and_where_rounding_adds_a_digit(self):
        form = (14, -4, 8)
        for n, digits, told in ((25, 1, (2, 1)), (35, 1, (4, 1)), (45, 1, (4, 1)), (95, 1, (1, 2)), (85, 1, (8, 1)),
                                (96, 1, (1, 2)), (995, 2, (1, 3)), (985, 2, (98, 1)), (9995, 3, (1, 4)), (94, 1, (9, 1))):
            self.assertEqual(rounded(form, code_of(form, n, 0), digits), told)
        self.assertEqual(rounded(T, 5, 2), (12, -1))
        self.assertEqual(rounded(T, 7, 2), (18, -1))
        self.assertEqual(rounded((6, -3, 2), code_of((6, -3, 2), 63, -3), 1), (8, 0))


class Fixed(unittest.TestCase):
    def test_small_formats_by_the_words(self):
        for form in SMALL_FORMATS:
            for code in range(count_of(form)):
                for place in range(-6, 5):
                    wanted = nearest_even(value_at(form, code) / power(10, place))
                    self.assertEqual(fixed(form, code, place), wanted, (form, code, place))

    def test_great_formats_by_the_words(self):
        for form in GREAT:
            for code in some_codes(form, 3):
                for place in (-2500, -2499, -400, -40, -1, 0, 1, 40, 300, 2499, 2500):
                    wanted = nearest_even(value_at(form, code) / power(10, place))
                    self.assertEqual(fixed(form, code, place), wanted, (form, code, place))

    def test_at_ties(self):
        form = (12, -4, 8)
        for n, place, told in ((5, 1, 0), (15, 1, 2), (25, 1, 2), (50, 2, 0), (150, 2, 2), (250, 2, 2), (500, 3, 0)):
            self.assertEqual(fixed(form, code_of(form, n, 0), place), told)
        self.assertEqual([fixed(T, code, 0) for code in (2, 3, 6, 9, 11)], [0, 1, 2, 2, 4])
        self.assertEqual([fixed(T, code, -1) for code in (1, 3, 5, 7)], [2, 8, 12, 18])
        self.assertEqual(fixed(T, 0, 7), 0)


class Guarantees(unittest.TestCase):
    def test_a_nearer_decimal_is_not_missed_at_powers_of_two(self):
        # Below a power of two the range is only half as wide.
        for form in GREAT[:4]:
            p, low, high = form
            for e in (low + 1, (low + high) // 2, high):
                code = (e - low) * 2 ** (p - 1) + 2 ** (p - 1)
                for way in WAYS:
                    d, q = shortest(form, way, code)
                    self.assertEqual(read(form, way, (d, q)), code)
                    for other in ((d - 1, q), (d + 1, q)):
                        if read(form, way, other) == code:
                            mine = abs(worth((d, q)) - value_at(form, code))
                            self.assertLessEqual(mine, abs(worth(other) - value_at(form, code)))

    def test_shortest_decimals_rise_with_the_codes(self):
        for form in SMALL_FORMATS:
            for way in WAYS:
                decimals = [shortest(form, way, code) for code in range(count_of(form))]
                for k in range(len(decimals) - 1):
                    self.assertEqual(compare(decimals[k], decimals[k + 1]), -1)


if __name__ == "__main__":
    unittest.main()
