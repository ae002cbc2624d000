import copy
import itertools
import random
import unittest

from numbertexts.errors import Coarse, NoIndex, NotSound
from numbertexts.formats import count_of, told_format
from numbertexts.reading import read
from numbertexts.rows import cut_row, guarded_read, is_sound, plain_read
from numbertexts.wrongs import count_slow, count_wrong, each_wrong, first_slow, first_wrong, slow_at, wrong_at
from slow_ways import SMALL_FORMATS, WAYS, power, read_by_words, worth, wrong_indexes

T = (3, -2, 2)
B64 = told_format("binary64")
# With one bit the last code that is read by "odd" is reached below the greatest exponent.
FORMATS = (*SMALL_FORMATS, (1, -3, 4), (1, -2, 0), (2, -3, 5), (1, -12, 12), (2, -8, 9))
GREAT = (told_format("binary16"), B64, (128, -1200, 1200), (1, -1200, 1200), (24, 100, 140))
UNSOUND = (
    (-1, 13, -7, 1), (0, 3, 0, 0), (2, 1, -3, 0), (0, 1, -3, 2), (-1, 1, 4, 3), (1, 7, 1, 3), (0, 2, 0, 1), (-3, 9, -9, 0),
)
# The power of ten itself, with a height, and told by a factor with zeros at its end.
EXACT = ((0, 1, 0, 1), (1, 5, 1, 3), (2, 400, -2, 2), (0, 8, -3, 0), (1, 80, -3, 1))


def is_wrong(form, way, row, number):
    return plain_read(form, way, row, number) != read(form, way, (number, row[0]))


def is_slow(form, way, row, number):
    return guarded_read(form, way, row, number) is None


def is_coarse(form, row):
    return row[1] < 2 * row[3] * 2 ** form[0]


def edge_rows(form):
    """For each height the finest rows that are still coarse for the format, and the coarsest that are not."""
    for exponent in (-3, -1, 0):
        for height in (1, 2, 3):
            limit = 2 * height * 2 ** form[0]
            for factor in (limit - 1, limit):
                for shift in range(-20, 0):
                    row = (exponent, factor, shift, height)
                    if is_sound(row):
                        yield row


def some_rows(form):
    """Sound rows and others."""
    picker = random.Random(form[0] * 100 + form[1])
    yield from UNSOUND
    yield from EXACT
    yield from edge_rows(form)
    for exponent in (-3, -2, -1, 1, 2, 3):
        for bits in (1, 3, form[0] + 1, form[0] + 2, form[0] + 5):
            told, factor, shift, height = cut_row(exponent, bits)
            yield told, factor, shift, height
            yield told, max(factor - picker.randint(0, 3), 1), shift, picker.randint(0, 3)


def limit_rows():
    """Rows at the limits of their items."""
    for exponent in (-400, -1, 400):
        for factor in (1, 2 ** 256 - 1):
            for shift in (-3000, 3000):
                for height in (0, 3):
                    yield exponent, factor, shift, height


class SmallFormats(unittest.TestCase):
    def check_wrong(self, form, way, word, row):
        told = (form, way, word, row)
        wrong = [number for number in range(1, 2 ** word) if is_wrong(form, way, row, number)]
        self.assertEqual(first_wrong(*told), wrong[0] if wrong else None, told)
        self.assertEqual(list(each_wrong(*told)), wrong, told)
        if is_sound(row) and not is_coarse(form, row):
            self.assertEqual(count_wrong(*told), len(wrong), told)
            self.assertEqual([wrong_at(*told, index) for index in range(len(wrong))], wrong, told)
        return len(wrong) > 0

    def check_slow(self, form, way, word, row):
        told = (form, way, word, row)
        slow = [number for number in range(1, 2 ** word) if is_slow(form, way, row, number)]
        self.assertEqual(first_slow(*told), slow[0] if slow else None, told)
        if not is_coarse(form, row):
            self.assertEqual(count_slow(*told), len(slow), told)
            self.assertEqual([slow_at(*told, index) for index in range(len(slow))], slow, told)
        return len(slow) > 0

    def test_against_going_through_all_numbers(self):
        wrong, slow = 0, 0
        for form in FORMATS:
            for row in some_rows(form):
                for way in WAYS:
                    wrong += self.check_wrong(form, way, 5, row)
                    if is_sound(row):
                        slow += self.check_slow(form, way, 5, row)
        self.assertGreater(wrong, 1000)
        self.assertGreater(slow, 1000)

    def test_longer_words_and_rows_with_few_wrong_numbers(self):
        wrong, slow = 0, 0
        for form in (T, (1, -3, 4), (4, -6, 2), (5, -3, 5)):
            for exponent in (-2, -1, 2):
                for bits in (form[0] + 3, form[0] + 6):
                    row = cut_row(exponent, bits)
                    for way in WAYS:
                        for word in (1, 2, 9):
                            wrong += self.check_wrong(form, way, word, row)
                            slow += self.check_slow(form, way, word, row)
        self.assertGreater(wrong, 20)
        self.assertGreater(slow, 20)

    def test_by_the_words_of_the_document(self):
        tiny = power(2, -3000)
        for form in (T, (1, -1, 0), (2, -4, -1)):
            for way in WAYS:
                for row in ((-1, 25, -8, 1), (-1, 12, -7, 1), (1, 5, 1, 2), (0, 3, 0, 0)):
                    above = tiny if row[3] > 0 else 0
                    lower = row[1] * power(2, row[2])
                    wrong = [number for number in range(1, 32)
                             if read_by_words(form, way, number * lower + above) != read_by_words(form, way, worth((number, row[0])))]
                    self.assertEqual(list(each_wrong(form, way, 5, row)), wrong, (form, way, row))

    def test_rows_at_the_limits_of_their_items(self):
        for form in (T, (1, -1200, 1200), (1, -3, 4)):
            for row in limit_rows():
                for way in WAYS:
                    self.check_wrong(form, way, 3, row)

    def test_sound_rows_have_only_slow_wrong_numbers(self):
        for form in FORMATS:
            for row in some_rows(form):
                if is_sound(row):
                    for way in WAYS:
                        for number in each_wrong(form, way, 5, row):
                            self.assertTrue(is_slow(form, way, row, number), (form, way, row, number))

    def test_arguments_are_not_changed_and_calls_are_equal(self):
        told = (T, "even", 4, (-1, 25, -8, 1))
        kept = copy.deepcopy(told)
        self.assertEqual([count_wrong(*told), first_wrong(*told), count_slow(*told)],
                         [count_wrong(*told), first_wrong(*told), count_slow(*told)])
        self.assertEqual(told, kept)


def great_rows():
    """Rows that are fine enough, with few wrong numbers and with very many."""
    for exponent in (-400, -342, -27, -1, 3, 28, 60, 308, 400):
        for bits in (64, 131, 140, 200, 256):
            yield cut_row(exponent, bits)


class GreatFormats(unittest.TestCase):
    def some_indexes(self, many):
        picker = random.Random(many)
        return sorted({0, many - 1, *(picker.randrange(many) for _ in range(3))})

    def check(self, form, way, word, row, is_told, functions):
        first, count, number_at = functions
        told = (form, way, word, row)
        found = first(*told)
        if is_coarse(form, row):
            return 0
        many = count(*told)
        self.assertEqual(found is None, many == 0, told)
        if many == 0:
            return 0
        self.assertEqual(number_at(*told, 0), found, told)
        for index in self.some_indexes(many):
            number = number_at(*told, index)
            self.assertTrue(1 <= number < 2 ** word)
            self.assertTrue(is_told(form, way, row, number), (told, number))
            # Between two numbers with neighbouring indexes there is none.
            last = number_at(*told, index + 1) if index + 1 < many else 2 ** word
            self.assertGreater(last, number)
            for between in itertools.islice(range(number + 1, last), 20):
                self.assertFalse(is_told(form, way, row, between), (told, between))
            for between in itertools.islice(range(last - 1, number, -1), 20):
                self.assertFalse(is_told(form, way, row, between), (told, between))
        for before in range(max(1, found - 20), found):
            self.assertFalse(is_told(form, way, row, before), (told, before))
        return 1

    def test_wrong_numbers(self):
        functions = (first_wrong, count_wrong, wrong_at)
        seen = 0
        for form in GREAT:
            for k, row in enumerate(great_rows()):
                for word in (11, 64, 128):
                    seen += self.check(form, WAYS[k % 5], word, row, is_wrong, functions)
        self.assertGreater(seen, 50)

    def test_slow_numbers(self):
        functions = (first_slow, count_slow, slow_at)
        seen = 0
        for form in GREAT:
            for k, row in enumerate(great_rows()):
                for word in (11, 64, 128):
                    seen += self.check(form, WAYS[k % 5], word, row, is_slow, functions)
        self.assertGreater(seen, 50)

    def test_the_count_of_a_word_is_that_of_its_parts(self):
        for form in GREAT:
            for k, row in enumerate(great_rows()):
                if is_coarse(form, row):
                    continue
                way = WAYS[k % 5]
                for count, number_at in ((count_wrong, wrong_at), (count_slow, slow_at)):
                    many = count(form, way, 128, row)
                    for word in (127, 90, 64):
                        fewer = count(form, way, word, row)
                        self.assertLessEqual(fewer, many)
                        if fewer > 0:
                            self.assertLess(number_at(form, way, 128, row, fewer - 1), 2 ** word)
                        if fewer < many:
                            self.assertGreaterEqual(number_at(form, way, 128, row, fewer), 2 ** word)

    def test_counts_against_going_through_binary16(self):
        form = told_format("binary16")
        for way in WAYS:
            for row in (cut_row(-4, 14), cut_row(-4, 20), cut_row(-1, 13), cut_row(-7, 18), (-2, 2 ** 14 * 41 // 25, -20, 2)):
                wrong = [number for number in range(1, 2 ** 12) if is_wrong(form, way, row, number)]
                self.assertEqual(list(each_wrong(form, way, 12, row)), wrong)
                if is_sound(row):
                    self.assertEqual(count_wrong(form, way, 12, row), len(wrong))
                    slow = [number for number in range(1, 2 ** 12) if is_slow(form, way, row, number)]
                    self.assertEqual(count_slow(form, way, 12, row), len(slow))

    def test_each_wrong_yields_the_first_ones_at_once(self):
        row = cut_row(-300, 64)
        found = list(itertools.islice(each_wrong(B64, "even", 128, row), 40))
        self.assertEqual(found, [wrong_at(B64, "even", 128, row, index) for index in range(40)])
        self.assertGreater(count_wrong(B64, "even", 128, row), 10 ** 30)
        useless = (0, 1, 3000, 0)
        self.assertEqual(list(itertools.islice(each_wrong(B64, "odd", 128, useless), 5)), [1, 2, 3, 4, 5])

    def test_two_generators_by_turns(self):
        one, other = each_wrong(B64, "even", 128, cut_row(-300, 64)), each_wrong(T, "zero", 6, (-1, 25, -8, 1))
        mine, yours = [], []
        for _ in range(4):
            mine.append(next(one))
            yours.append(next(other))
        again = each_wrong(B64, "even", 128, cut_row(-300, 64))
        self.assertEqual(mine, [next(again) for _ in range(4)])
        self.assertEqual(yours, list(each_wrong(T, "zero", 6, (-1, 25, -8, 1)))[:4])

    def test_a_useless_row_is_wrong_up_to_what_is_beyond(self):
        # All numbers from 2 ** 1024 on are beyond with both; the row stands for the power 2 ** 3000.
        self.assertEqual(first_wrong(B64, "even", 128, (0, 1, 3000, 0)), 1)
        self.assertIs(first_wrong(B64, "even", 128, (400, 1, 3000, 0)), None)
        self.assertIs(first_wrong((1, -1200, -1200), "zero", 128, (-1, 1, 0, 0)), None)
        self.assertEqual(first_wrong((1, -1200, -1200), "zero", 128, (-400, 1, -1200, 0)), 1)
        self.assertEqual(count_of((1, -1200, -1200)), 2)


class Errors(unittest.TestCase):
    def raised(self, error, function, *arguments):
        with self.assertRaises(error) as caught:
            function(*arguments)
        self.assertIs(type(caught.exception), error)
        return caught.exception

    def test_rows_that_are_not_sound(self):
        for row in UNSOUND:
            for index in (0, None, -1):
                for function in (wrong_at, slow_at):
                    self.assertEqual(self.raised(NotSound, function, T, "even", 4, row, index).power, row[0])
            for function in (count_wrong, first_slow, count_slow):
                self.assertEqual(self.raised(NotSound, function, T, "even", 4, row).power, row[0])
            # These two take any row.
            first_wrong(T, "even", 4, row)
            list(each_wrong(T, "even", 4, row))

    def test_coarse_rows(self):
        coarse = 0
        for form in FORMATS:
            for row in some_rows(form):
                if is_sound(row) and is_coarse(form, row):
                    coarse += 1
                    for function in (wrong_at, slow_at):
                        self.assertEqual(self.raised(Coarse, function, form, "odd", 4, row, True).power, row[0])
                    for function in (count_wrong, count_slow):
                        self.assertEqual(self.raised(Coarse, function, form, "odd", 4, row).power, row[0])
                    first_slow(form, "odd", 4, row)
        self.assertGreater(coarse, 50)

    def test_the_limit_of_coarse_rows(self):
        seen = set()
        for form in FORMATS:
            for row in edge_rows(form):
                if row[1] == 2 * row[3] * 2 ** form[0]:
                    count_wrong(form, "even", 4, row)
                    count_slow(form, "even", 4, row)
                else:
                    self.raised(Coarse, count_wrong, form, "even", 4, row)
                    self.raised(Coarse, count_slow, form, "even", 4, row)
                seen.add((row[3], row[1] % 2))
        self.assertEqual(seen, {(height, odd) for height in (1, 2, 3) for odd in (0, 1)})

    def test_a_row_without_height_is_never_coarse(self):
        for form in (T, B64, (128, -1200, 1200)):
            self.assertEqual(count_wrong(form, "even", 128, (0, 1, 0, 0)), 0)
            self.assertEqual(count_slow(form, "even", 128, (0, 1, 0, 0)), 0)
            self.assertIs(first_slow(form, "even", 128, (1, 5, 1, 0)), None)

    def test_what_is_no_index(self):
        for told in ((T, "even", 4, (-1, 25, -8, 1)), (T, "even", 4, (1, 5, 1, 0)), (B64, "zero", 128, cut_row(-300, 64))):
            for count, number_at in ((count_wrong, wrong_at), (count_slow, slow_at)):
                for index in wrong_indexes(count(*told)):
                    self.assertIs(self.raised(NoIndex, number_at, *told, index).index, index)


if __name__ == "__main__":
    unittest.main()
