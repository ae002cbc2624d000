import functools
import unittest

from numbertexts.deciding import deciding_digits, least_undecided, undecided_pair
from numbertexts.decimals import is_decimal
from numbertexts.formats import told_format
from numbertexts.reading import read
from slow_ways import HALF, SMALL_FORMATS, WAYS, decimal_of, numbers_of, power, real_at, worth

T = (3, -2, 2)
B16, B32, B64 = (told_format(name) for name in ("binary16", "binary32", "binary64"))
SMALL = (*SMALL_FORMATS, (4, -1, 9), (1, -3, 12), (3, 0, 8), (5, 2, 6), (4, 1, 1), (6, -9, -8), (2, -1, 3), (1, 0, 9))
GREAT = (B16, B64, (128, -1200, 1200), (1, -1200, 1200), (128, 0, 1200), (8, -2, 1200), (4, 1100, 1200), (1, -1200, -1200))


def plain(real):
    d, q = decimal_of(real)
    while d % 10 == 0:
        d, q = d // 10, q + 1
    return (d, q)


@functools.lru_cache(maxsize=None)
def borders(form, way):
    """The borders in ascending order, as the words of point 25 tell them."""
    numbers = numbers_of(form)
    if way in ("even", "away"):
        return [plain(real_at(form, code + HALF)) for code in range(len(numbers))]
    return [plain(number) for code, number in enumerate(numbers) if number > 0 and (way != "odd" or code % 2 == 0)]


def digits_of(decimal):
    return len(str(decimal[0]))


def what_is_kept(decimal, digits):
    """The first digits from the first one that is not 0 on, their place, and whether a later one is not 0."""
    d, q = decimal
    text = str(d)
    return text[:digits].ljust(digits, "0"), q + len(text), text[digits:].strip("0") != ""


def is_border(form, way, decimal):
    """Whether reading changes at the decimal, for formats in which no two borders lie this near to one another."""
    tiny = power(10, -60)
    d, q = plain(worth(decimal) - tiny)
    other_d, other_q = plain(worth(decimal) + tiny)
    return len({read(form, way, (d, q)), read(form, way, decimal), read(form, way, (other_d, other_q))}) > 1


class Small(unittest.TestCase):
    def test_the_borders_are_where_reading_changes(self):
        for form in SMALL_FORMATS:
            for way in WAYS:
                told = borders(form, way)
                for decimal in told:
                    self.assertTrue(is_border(form, way, decimal), (form, way, decimal))
                for quarter in range(1, 4 * len(numbers_of(form)) + 6):
                    decimal = plain(real_at(form, quarter * HALF * HALF))
                    self.assertEqual(is_border(form, way, decimal), decimal in told, (form, way, decimal))

    def test_deciding_digits_against_all_borders(self):
        for form in SMALL:
            for way in WAYS:
                most = max((digits_of(decimal) for decimal in borders(form, way)), default=0)
                self.assertEqual(deciding_digits(form, way), most, (form, way))

    def test_least_undecided_against_all_borders(self):
        for form in SMALL:
            for way in WAYS:
                told = borders(form, way)
                for digits in (*range(1, deciding_digits(form, way) + 2), 1000):
                    longer = [decimal for decimal in told if digits_of(decimal) > digits]
                    wanted = longer[0] if longer else None
                    self.assertEqual(least_undecided(form, way, digits), wanted, (form, way, digits))

    def test_pairs(self):
        for form in SMALL:
            for way in WAYS:
                decide = deciding_digits(form, way)
                for digits in (*range(1, decide + 3), 1000):
                    check_pair(self, form, way, digits, decide)

    def test_what_decides_is_read_from_what_is_kept(self):
        # Decimals with one digit more than decide are read as the others of which the same is kept.
        for form in ((2, -1, 1), (3, 0, 1), (1, -1, 2)):
            for way in WAYS:
                digits = max(deciding_digits(form, way), 1)
                told = {}
                for d in range(1, 10 ** (digits + 1)):
                    for q in (-digits, -1):
                        code = read(form, way, (d, q))
                        self.assertEqual(told.setdefault(what_is_kept((d, q), digits), code), code, (form, way, d, q))


def check_pair(case, form, way, digits, decide):
    found = undecided_pair(form, way, digits)
    case.assertEqual(found is None, digits >= decide, (form, way, digits))
    if found is not None:
        one, other = found
        case.assertIs(type(found), tuple)
        case.assertTrue(is_decimal(one) and is_decimal(other), found)
        case.assertEqual(what_is_kept(one, digits), what_is_kept(other, digits), (form, way, digits))
        case.assertNotEqual(read(form, way, one), read(form, way, other), (form, way, digits))


class NoBorder(unittest.TestCase):
    def test_formats_and_ways_without_a_border(self):
        for low in (-1200, -3, 0, 5, 1200):
            form = (1, low, low)
            self.assertEqual(deciding_digits(form, "odd"), 0)
            for digits in (1, 2, 1000):
                self.assertIs(least_undecided(form, "odd", digits), None)
                self.assertIs(undecided_pair(form, "odd", digits), None)
            self.assertGreater(deciding_digits(form, "even"), 0)

    def test_one_bit_by_odd(self):
        # The even codes are those of 2 ** -1 and 2 ** 1, whatever the one bit is.
        self.assertEqual(borders((1, -2, 1), "odd"), [(5, -1), (2, 0)])
        self.assertEqual(deciding_digits((1, -2, 1), "odd"), 1)
        self.assertEqual([deciding_digits((1, -3, -1), "odd"), least_undecided((1, -3, -1), "odd", 1)], [2, (25, -2)])


class Great(unittest.TestCase):
    def test_known_ones(self):
        self.assertEqual([deciding_digits(form, "even") for form in (B16, B32, B64)], [22, 113, 768])
        self.assertEqual([deciding_digits(form, "away") for form in (B16, B32, B64)], [22, 113, 768])
        self.assertEqual([deciding_digits(form, "zero") for form in (B16, B32, B64)], [21, 112, 767])
        self.assertEqual(least_undecided(B64, "even", 767)[1], -1075)
        self.assertEqual(deciding_digits((1, -1200, -1200), "zero"), len(str(5 ** 1200)))

    def test_no_digits_too_few_and_as_many_as_decide(self):
        for form in GREAT:
            for way in WAYS:
                decide = deciding_digits(form, way)
                if decide > 0:
                    for digits in (decide, decide + 1, 1000):
                        self.assertIs(least_undecided(form, way, digits), None, (form, way, digits))
                        self.assertIs(undecided_pair(form, way, digits), None, (form, way, digits))
                    for digits in sorted({1, 2, decide // 2, decide - 1} - {0}):
                        if digits < decide:
                            self.check_border(form, way, digits)
                            check_pair(self, form, way, digits, decide)

    def check_border(self, form, way, digits):
        border = least_undecided(form, way, digits)
        self.assertGreater(digits_of(border), digits)
        self.assertNotEqual(border[0] % 10, 0)
        self.assertTrue(is_decimal(border))
        d, q = border
        below, above = (10 * d - 1, q - 1), (10 * d + 1, q - 1)
        codes = {read(form, way, decimal) for decimal in (below, border, above)}
        self.assertGreater(len(codes), 1, (form, way, border))

    def test_the_least_border_of_a_longer_format_against_all_borders(self):
        form = (7, -24, 5)
        for way in WAYS:
            told = borders(form, way)
            lengths = [digits_of(decimal) for decimal in told]
            self.assertEqual(deciding_digits(form, way), max(lengths))
            for digits in range(1, max(lengths)):
                wanted = next(decimal for decimal, many in zip(told, lengths) if many > digits)
                self.assertEqual(least_undecided(form, way, digits), wanted)

    def test_whole_borders_with_zeros_at_the_end(self):
        # 13 * 2 ** 56 is less than 10 ** 18 and 15 * 2 ** 56 has a zero at its end; 14 * 2 ** 56 is no border.
        self.assertEqual(least_undecided((3, 40, 70), "even", 18), (9 * 2 ** 57, 0))
        self.assertEqual(least_undecided((3, 40, 70), "zero", 18), (7 * 2 ** 57, 0))
        # 15 is a multiple of 5, so the greatest number 15 * 2 ** 3 = 120 has two digits; 112 has three.
        self.assertEqual([deciding_digits((4, 3, 3), "zero"), least_undecided((4, 3, 3), "zero", 2)], [3, (104, 0)])
        self.assertEqual([deciding_digits((4, 1, 1), "zero"), least_undecided((4, 1, 1), "zero", 1)], [2, (12, 0)])


if __name__ == "__main__":
    unittest.main()
