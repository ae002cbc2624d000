import random
import unittest

from numbertexts.errors import NoIndex
from numbertexts.lines import value_at
from numbertexts.parted import count_parted, first_parted, parted_at
from slow_ways import wrong_indexes

FAR = 10 ** 60 - 1
GREAT = 10 ** 300 - 1
LONG_RANGES = ((-FAR, FAR), (0, FAR), (-FAR, 0), (FAR - 40, FAR), (-5, 10 ** 30))


def some_pairs():
    """Pairs of lines: any ones, moved, steeper, crossing ones and equal ones told otherwise."""
    picker = random.Random(6)
    for _ in range(250):
        a, b, c = picker.randint(-20, 20), picker.randint(-40, 40), picker.randint(1, 12)
        yield (a, b, c), (picker.randint(-20, 20), picker.randint(-40, 40), picker.randint(1, 12))
        yield (a, b, c), (a, b + picker.randint(-15, 15), c)
        yield (a, b, c), (a + picker.randint(1, 2), b, c)
        yield (a, b, c), (-a, b + picker.randint(-3, 3), c)
        k = picker.randint(2, 5)
        yield (a, b, c), (k * a, k * b, k * c)
        yield (a, b, c), (k * a, k * b + picker.randint(-k, k), k * c)
    yield (0, 0, 1), (0, 0, 1)
    yield (0, 3, 2), (0, 2, 2)
    yield (1, 0, 1), (1, 1, 1)
    yield (1, 0, 1), (1, -1, 1)


GREAT_PAIRS = (
    ((3 ** 628, -5 ** 429, 7 ** 354), (3 ** 628 + 1, -5 ** 429, 7 ** 354)),
    ((3 ** 628, -5 ** 429, 7 ** 354), (3 ** 628, 1 - 5 ** 429, 7 ** 354)),
    ((10 ** 240 + 1, 5, GREAT), (10 ** 240 + 1, 5 + 10 ** 250, GREAT)),
    ((10 ** 240 + 1, 5, GREAT), (10 ** 240 + 1, 5, GREAT - 1)),
    ((10 ** 240 + 1, 5, GREAT), (-10 ** 240 - 1, 5, GREAT)),
    ((2 ** 990, 2 ** 980, 3 ** 625), (2 ** 991, 2 ** 981, 2 * 3 ** 625)),
    ((GREAT, GREAT, 7), (-GREAT, -GREAT, 7)),
)


def slow_parted(one, other, low, high):
    return [x for x in range(low, high) if value_at(one, x) != value_at(other, x)]


class Short(unittest.TestCase):
    def test_against_going_through_them(self):
        for one, other in some_pairs():
            for low, high in ((-9, 14), (3, 40), (-30, -28), (5, 6)):
                parted = slow_parted(one, other, low, high)
                told = (one, other, low, high)
                self.assertEqual(count_parted(*told), len(parted), told)
                self.assertEqual(first_parted(*told), parted[0] if parted else None, told)
                self.assertEqual([parted_at(*told, index) for index in range(len(parted))], parted, told)

    def test_both_lines_exchanged(self):
        for one, other in some_pairs():
            self.assertEqual(count_parted(one, other, -15, 20), count_parted(other, one, -15, 20))
            self.assertEqual(first_parted(one, other, -15, 20), first_parted(other, one, -15, 20))

    def test_equal_lines_told_otherwise_do_not_part(self):
        for low, high in ((-50, 50), *LONG_RANGES):
            self.assertEqual(count_parted((3, 1, 4), (9, 3, 12), low, high), 0)
            self.assertEqual(first_parted((2, 1, 4), (1, 0, 2), low, high), None)

    def test_empty_ranges(self):
        for one, other in list(some_pairs())[:60]:
            for low, high in ((4, 4), (4, 3), (0, -20), (FAR, -FAR)):
                self.assertEqual(count_parted(one, other, low, high), 0)
                self.assertEqual(first_parted(one, other, low, high), None)
                with self.assertRaises(NoIndex):
                    parted_at(one, other, low, high, 0)


class Long(unittest.TestCase):
    def test_great_lines_on_short_ranges(self):
        for one, other in GREAT_PAIRS:
            for low, high in ((-FAR, 30 - FAR), (-15, 15), (FAR - 30, FAR)):
                parted = slow_parted(one, other, low, high)
                self.assertEqual(count_parted(one, other, low, high), len(parted))
                self.assertEqual(first_parted(one, other, low, high), parted[0] if parted else None)

    def test_long_ranges_against_their_parts(self):
        for one, other in GREAT_PAIRS:
            for low, high in LONG_RANGES:
                many = count_parted(one, other, low, high)
                places = [low, low + (high - low) // 3, low + (high - low) // 2 + 1, high - 7, high]
                parts = [count_parted(one, other, places[k], places[k + 1]) for k in range(4)]
                self.assertEqual(many, sum(parts), (one, other, low, high))
                first = first_parted(one, other, low, high)
                self.assertEqual(many == 0, first is None)
                if first is not None:
                    self.assertNotEqual(value_at(one, first), value_at(other, first))
                    self.assertEqual(count_parted(one, other, low, first), 0)
                    self.assertEqual(parted_at(one, other, low, high, 0), first)

    def test_indexes_of_long_ranges(self):
        for one, other in GREAT_PAIRS:
            many = count_parted(one, other, -FAR, FAR)
            for index in {0, many // 3, many // 2, many - 1} if many > 0 else ():
                x = parted_at(one, other, -FAR, FAR, index)
                self.assertNotEqual(value_at(one, x), value_at(other, x))
                self.assertEqual(count_parted(one, other, -FAR, x), index)

    def test_crossing_lines_part_almost_everywhere(self):
        self.assertEqual(count_parted((1, 0, 1), (-1, 0, 1), -FAR, FAR), 2 * FAR - 1)
        self.assertEqual(parted_at((1, 0, 1), (-1, 0, 1), -FAR, FAR, FAR), 1)
        self.assertEqual(first_parted((1, 0, 10 ** 50), (0, 0, 1), 0, FAR), 10 ** 50)
        self.assertEqual(count_parted((1, 0, 10 ** 50), (0, 0, 1), 0, FAR), FAR - 10 ** 50)


class Indexes(unittest.TestCase):
    def test_what_is_no_index(self):
        for one, other, low, high in (((1, 5, 2), (1, 0, 1), 0, 10), ((1, 0, 1), (1, 0, 1), 0, 10),
                                      ((1, 0, 1), (0, 0, 1), 0, 2), (*GREAT_PAIRS[0], -FAR, FAR)):
            many = count_parted(one, other, low, high)
            for index in wrong_indexes(many):
                with self.assertRaises(NoIndex) as caught:
                    parted_at(one, other, low, high, index)
                self.assertIs(caught.exception.index, index)


if __name__ == "__main__":
    unittest.main()
