import itertools
import random
import unittest
from fractions import Fraction

from numbertexts.errors import NoIndex
from numbertexts.formats import count_of, told_format
from numbertexts.hard import count_near, count_ties, each_near, hardest, near_at, tie_at
from numbertexts.reading import position
from slow_ways import HALF, SMALL_FORMATS, position_by_words, worth, wrong_indexes

T = (3, -2, 2)
B64 = told_format("binary64")
SMALL = (*SMALL_FORMATS, (1, -3, 4), (2, -3, 5), (4, -6, 2), (1, -12, 12))
GREAT = (told_format("binary16"), B64, (128, -1200, 1200), (1, -1200, 1200), (24, 100, 140))
POWERS = (-100, -60, -30, -27, -3, -1, 0, 1, 3, 22, 55, 100)
NEAR = ((0, 1), (1, 2), (2, 4), (1, 3), (1, 4), (1, 5), (3, 20), (1, 10), (7, 15), (49, 100), (5 * 10 ** 99 - 1, 10 ** 100))


def distance_of(place):
    above = (place + HALF) % 1
    return min(above, 1 - above)


def distances(form, exponent, word):
    """The distances of the decimals that are looked at, by their d, by the words of point 26."""
    found = {}
    for d in range(1, 2 ** word):
        place = position_by_words(form, worth((d, exponent)))
        if place < count_of(form):
            found[d] = distance_of(place)
    return found


def distance(form, exponent, d):
    """The distance of a decimal of a great format, None if it is beyond."""
    real = worth((d, exponent))
    place = Fraction(*position(form, real.numerator, real.denominator))
    return distance_of(place) if place < count_of(form) else None


class SmallFormats(unittest.TestCase):
    def all_cases(self):
        for form in SMALL:
            for exponent in (-3, -2, -1, 0, 1, 2):
                for word in (1, 3, 6):
                    yield form, exponent, word

    def test_ties(self):
        seen = 0
        for told in self.all_cases():
            ties = [d for d, far in distances(*told).items() if far == 0]
            self.assertEqual(count_ties(*told), len(ties), told)
            self.assertEqual([tie_at(*told, index) for index in range(len(ties))], ties, told)
            seen += len(ties) > 1
        self.assertGreater(seen, 20)

    def test_hardest(self):
        seen = [0, 0]
        for told in self.all_cases():
            far = [(value, d) for d, value in distances(*told).items() if value > 0]
            wanted = None
            if far:
                value, d = min(far)
                wanted = (d, (value.numerator, value.denominator))
            self.assertEqual(hardest(*told), wanted, told)
            seen[wanted is None] += 1
        self.assertGreater(min(seen), 20)

    def test_near(self):
        for told in self.all_cases():
            far = distances(*told)
            for num, den in NEAR:
                near = [d for d, value in far.items() if 0 < value <= Fraction(num, den)]
                self.assertEqual(count_near(*told, num, den), len(near), (told, num, den))
                self.assertEqual(list(each_near(*told, num, den)), near, (told, num, den))
                some = range(len(near)) if len(near) < 8 else (0, len(near) // 2, len(near) - 1)
                self.assertEqual([near_at(*told, num, den, index) for index in some], [near[index] for index in some])

    def test_all_are_ties_or_there_are_none(self):
        self.assertIs(hardest(T, 2, 3), None)
        self.assertEqual([count_ties(T, 2, 3), count_near(T, 2, 3, 1, 2), list(each_near(T, 2, 3, 1, 2))], [0, 0, []])
        # With one exponent 0 and 1 are the numbers, and 1.5 is a tie.
        self.assertEqual([hardest((1, 1, 1), 0, 1), count_ties((1, 1, 1), 0, 1)], [None, 1])

    def test_with_1_half_all_but_ties_are_near(self):
        for told in self.all_cases():
            self.assertEqual(count_near(*told, 1, 2), len(distances(*told)) - count_ties(*told))
            self.assertEqual(count_near(*told, 0, 1), 0)

    def test_between_the_greatest_number_and_beyond(self):
        # 28 is the greatest number, the position of 31 is 23 3/4, and that of 32 is 24.
        self.assertEqual([tie_at(T, 0, 6, index) for index in (6, 7)], [26, 30])
        self.assertEqual(count_ties(T, 0, 6), 8)
        self.assertEqual(near_at(T, 0, 6, 1, 4, count_near(T, 0, 6, 1, 4) - 1), 31)


class GreatFormats(unittest.TestCase):
    def test_ties(self):
        seen = 0
        for form in GREAT:
            for exponent in POWERS:
                for word in (20, 64):
                    many = count_ties(form, exponent, word)
                    found = [tie_at(form, exponent, word, index) for index in sorted({0, 1, many // 2, many - 1}) if 0 <= index < many]
                    self.assertEqual(found, sorted(set(found)))
                    for d in found:
                        self.assertTrue(1 <= d < 2 ** word)
                        self.assertEqual(distance(form, exponent, d), 0, (form, exponent, d))
                    seen += many > 0
        self.assertGreater(seen, 20)

    def test_hardest(self):
        seen = 0
        for form in GREAT:
            for exponent in POWERS:
                for word in (20, 64):
                    told = (form, exponent, word)
                    found = hardest(*told)
                    if found is None:
                        self.assertEqual(count_near(*told, 1, 2), 0)
                        continue
                    d, (num, den) = found
                    self.assertEqual(distance(form, exponent, d), Fraction(num, den), told)
                    self.assertEqual((num, den), Fraction(num, den).as_integer_ratio())
                    if den <= 10 ** 100:
                        # It is the first one that is so near, and none is nearer.
                        self.assertEqual(near_at(*told, num, den, 0), d, told)
                    less = Fraction(int(num * 10 ** 99 // den), 10 ** 99)
                    if less < Fraction(num, den):
                        self.assertEqual(count_near(*told, less.numerator, less.denominator), 0, told)
                    seen += 1
        self.assertGreater(seen, 50)

    def test_the_hardest_of_binary16_by_going_through_all(self):
        form = told_format("binary16")
        for exponent in (-9, -4, -1, 1):
            far = {d: distance(form, exponent, d) for d in range(1, 2 ** 12)}
            value, d = min((value, d) for d, value in far.items() if value is not None and value > 0)
            self.assertEqual(hardest(form, exponent, 12), (d, (value.numerator, value.denominator)))

    def test_near(self):
        for form in GREAT:
            for exponent in POWERS:
                for num, den in ((1, 10 ** 6), (1, 3), (1, 10 ** 18)):
                    told = (form, exponent, 64, num, den)
                    many = count_near(*told)
                    if many == 0:
                        self.assertEqual(list(itertools.islice(each_near(*told), 1)), [])
                        continue
                    first = [near_at(*told, index) for index in range(min(many, 4))]
                    self.assertEqual(list(itertools.islice(each_near(*told), 4)), first)
                    self.check_indexes(told, many)

    def check_indexes(self, told, many):
        form, exponent, _, num, den = told
        picker = random.Random(many)
        for index in sorted({0, many - 1, picker.randrange(many)}):
            d = near_at(*told, index)
            self.assertTrue(0 < distance(form, exponent, d) <= Fraction(num, den), (told, d))
            last = near_at(*told, index + 1) if index + 1 < many else min(d + 12, 2 ** 64)
            self.assertGreater(last, d)
            for between in itertools.islice(range(d + 1, last), 8):
                far = distance(form, exponent, between)
                self.assertFalse(far is not None and 0 < far <= Fraction(num, den), (told, between))

    def test_the_count_of_a_word_is_that_of_its_parts(self):
        for form in GREAT:
            for exponent in POWERS:
                told = (form, exponent, 64, 1, 100)
                many, fewer = count_near(*told), count_near(form, exponent, 60, 1, 100)
                if fewer > 0:
                    self.assertLess(near_at(*told, fewer - 1), 2 ** 60)
                if fewer < many:
                    self.assertGreaterEqual(near_at(*told, fewer), 2 ** 60)

    def test_the_first_ones_come_at_once_and_two_go_by_turns(self):
        one, other = each_near(B64, -20, 64, 1, 3), each_near((128, -1200, 1200), 100, 64, 1, 3)
        mine, yours = [], []
        for _ in range(30):
            mine.append(next(one))
            yours.append(next(other))
        self.assertGreater(count_near(B64, -20, 64, 1, 3), 10 ** 18)
        self.assertEqual(mine, [near_at(B64, -20, 64, 1, 3, index) for index in range(30)])
        self.assertEqual(yours, [near_at((128, -1200, 1200), 100, 64, 1, 3, index) for index in range(30)])

    def test_what_is_no_index(self):
        for told in ((T, 0, 5), (T, 2, 3), (B64, -20, 64), (B64, 3, 64)):
            for index in wrong_indexes(count_ties(*told)):
                with self.assertRaises(NoIndex) as caught:
                    tie_at(*told, index)
                self.assertIs(caught.exception.index, index)
            for num, den in ((1, 4), (0, 1), (1, 2)):
                for index in wrong_indexes(count_near(*told, num, den)):
                    with self.assertRaises(NoIndex) as caught:
                        near_at(*told, num, den, index)
                    self.assertIs(caught.exception.index, index)


if __name__ == "__main__":
    unittest.main()
