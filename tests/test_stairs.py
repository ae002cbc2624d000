import unittest

from numbertexts.lines import value_at
from numbertexts.stairs import first_above, stair_at, sum_of_stair

FAR = 10 ** 60 - 1
GREAT = 10 ** 300 - 1
STAIRS = (
    ((1, 2, 8), (1, 5, 8)), ((3, 1, 4),), ((-3, -1, 4),), ((1, 0, 1), (-1, 0, 1)), ((7, -3, 10), (-2, 5, 3), (1, 1, 2)),
    ((0, -5, 2), (0, 5, 2)), ((5, 0, 7), (5, 0, 7), (5, 0, 7)),
)
GREAT_STAIRS = (
    ((GREAT, -GREAT, GREAT - 2),), ((3 ** 628, 1, 7 ** 354), (-GREAT, 5, 3)),
    ((1, GREAT, GREAT - 1), (3 ** 600, 2, 5 ** 429), (-2 ** 990, 1, 3 ** 620)),
)


def slow_sum(stair, low, high):
    return sum(value_at(line, x) for line in stair for x in range(low, high))


def slow_first_above(lower, upper, low, high):
    above = [x for x in range(low, high) if stair_at(upper, x) > stair_at(lower, x)]
    return above[0] if above else None


class Values(unittest.TestCase):
    def test_the_value_is_the_sum_of_the_values_of_the_lines(self):
        for stair in (*STAIRS, *GREAT_STAIRS):
            for x in (-FAR, -9, -1, 0, 1, 2, 50, FAR):
                self.assertEqual(stair_at(stair, x), sum((a * x + b) // c for a, b, c in stair))

    def test_quarters_rounded_with_ties_to_even(self):
        told = [stair_at(((1, 2, 8), (1, 5, 8)), x) for x in range(-8, 17)]
        self.assertEqual(told, [round(x / 4) for x in range(-8, 17)])


class Sums(unittest.TestCase):
    def test_short_ranges_against_plain_addition(self):
        for stair in (*STAIRS, *GREAT_STAIRS):
            for low in (-30, -3, 0, 8):
                for many in (0, 1, 2, 5, 16, 41):
                    self.assertEqual(sum_of_stair(stair, low, low + many), slow_sum(stair, low, low + many))

    def test_empty_ranges(self):
        for stair in (*STAIRS, *GREAT_STAIRS):
            for low, high in ((0, 0), (4, 4), (4, 3), (FAR, -FAR)):
                self.assertEqual(sum_of_stair(stair, low, high), 0)

    def test_long_ranges_against_their_parts(self):
        for stair in (*STAIRS, *GREAT_STAIRS):
            for low, high in ((-FAR, FAR), (0, FAR), (10 ** 59 + 1, 10 ** 59 + 10 ** 40)):
                places = [low, low + (high - low) // 7, high - (high - low) // 3, high - 20, high]
                parts = [sum_of_stair(stair, places[k], places[k + 1]) for k in range(4)]
                self.assertEqual(sum_of_stair(stair, low, high), sum(parts))
                self.assertEqual(parts[3], slow_sum(stair, high - 20, high))

    def test_long_ranges_against_closed_forms(self):
        self.assertEqual(sum_of_stair(((1, 0, 1), (-1, 0, 1), (0, 7, 2)), -FAR, FAR), 6 * FAR)
        self.assertEqual(sum_of_stair(((2, 0, 1), (1, 0, 1)), 0, FAR), 3 * (FAR * (FAR - 1) // 2))


class FirstAbove(unittest.TestCase):
    def test_short_ranges_one_by_one(self):
        pairs = [
            (((1, 2, 8), (1, 5, 8)), ((1, 2, 4),)), (((1, 0, 7),), ((1, 1, 7),)), (((3, 1, 4),), ((3, 2, 4),)),
            (((-3, -1, 4),), ((-3, 2, 4),)), (((1, 0, 2), (1, 0, 3)), ((1, 1, 2), (1, 0, 3))), (((0, 0, 1),), ((0, 1, 2),)),
            (((1, 0, 5), (1, 0, 5), (1, 0, 5)), ((3, 0, 5),)), (((0, 3, 1),), ((0, 4, 1),)), (((1, 0, 1),), ((2, 0, 2),)),
        ]
        for lower, upper in pairs:
            for low in range(-12, 13):
                for high in range(low - 2, low + 26):
                    self.assertEqual(
                        first_above(lower, upper, low, high), slow_first_above(lower, upper, low, high),
                        (lower, upper, low, high))

    def test_at_once(self):
        for low, high in ((0, 1), (-5, 90), (-FAR, FAR), (FAR - 1, FAR)):
            self.assertEqual(first_above(((3, 1, 4),), ((3, 5, 4),), low, high), low)

    def test_late(self):
        c = 10 ** 61 + 9
        for low in (-10 ** 59, 0, 5, 10 ** 59):
            for place in (low, low + 1, low + 10 ** 31 + 7, low + 10 ** 59 - 2, low + 10 ** 59 - 1):
                # The lower one reaches its next value behind the place, the upper one just there.
                lower = ((1, -place - 1, c),)
                upper = ((1, -place, c),)
                self.assertEqual(first_above(lower, upper, low, low + 10 ** 59), place)
                self.assertEqual(first_above(((2, 3, 7), *lower), (*upper, (2, 3, 7)), low, low + 10 ** 59), place)

    def test_great_lines(self):
        stair = ((3 ** 600, 2, 5 ** 429), (-2 ** 990, 1, 3 ** 620))
        c = 10 ** 299
        lower = (*stair, (7 * c // 3, 0, c))
        upper = (*stair, (7 * c // 3, c // 10 ** 58, c))
        found = first_above(lower, upper, -FAR, FAR)
        self.assertGreater(stair_at(upper, found), stair_at(lower, found))
        self.assertEqual(sum_of_stair(upper, -FAR, found), sum_of_stair(lower, -FAR, found))
        self.assertEqual(first_above(lower, upper, found, FAR), found)
        self.assertIsNone(first_above(lower, upper, -FAR, found))

    def test_nowhere(self):
        stair = ((1, 2, 8), (1, 5, 8))
        doubled = ((2, 4, 16), (3, 15, 24))
        for low, high in ((0, 50), (-FAR, FAR), (7, 8)):
            self.assertIsNone(first_above(stair, stair, low, high))
            self.assertIsNone(first_above(stair, doubled, low, high))

    def test_empty_ranges(self):
        for low, high in ((0, 0), (3, -3), (FAR, -FAR)):
            self.assertIsNone(first_above(((0, 0, 1),), ((0, 1, 1),), low, high))


if __name__ == "__main__":
    unittest.main()
