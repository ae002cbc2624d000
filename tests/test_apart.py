import random
import unittest

from numbertexts.apart import apart_at, count_apart, count_in, each_apart, first_apart, first_between, index_in
from numbertexts.errors import NoIndex
from numbertexts.lines import value_at
from slow_ways import wrong_indexes

GREAT = 10 ** 300 + 7


def ordered_pairs(many, greatest):
    """Lines and short ranges on which the upper one is nowhere below the lower one: any ones, and near ones."""
    picker = random.Random(greatest)
    while many > 0:
        c = picker.randint(1, greatest)
        lower = (picker.randint(-greatest, greatest), picker.randint(-2 * greatest, 2 * greatest), c)
        k = picker.randint(1, 9)
        upper = picker.choice((
            (picker.randint(-greatest, greatest), picker.randint(-2 * greatest, 2 * greatest), picker.randint(1, greatest)),
            (lower[0] * k + picker.randint(0, 2), lower[1] * k + picker.randint(-3, 5), lower[2] * k)))
        low = picker.randint(-20, 20)
        high = low + picker.randint(0, 60)
        if all(value_at(lower, x) <= value_at(upper, x) for x in range(low, high)):
            many -= 1
            yield lower, upper, low, high


def slow_apart(lower, upper, low, high):
    return [x for x in range(low, high) if value_at(lower, x) != value_at(upper, x)]


class OnePair(unittest.TestCase):
    def test_short_ranges_against_going_through_them(self):
        later = 0
        for greatest in (3, 10, 60):
            for told in ordered_pairs(4000, greatest):
                apart = slow_apart(*told)
                self.assertEqual(first_between(*told), apart[0] if apart else None, told)
                later += bool(apart) and apart[0] > told[2]
        self.assertGreater(later, 500)

    def test_long_ranges(self):
        # n * (GREAT + 1) // GREAT is n until n is GREAT itself.
        self.assertEqual(first_between((1, 0, 1), (GREAT + 1, 0, GREAT), 0, 10 * GREAT), GREAT)
        self.assertEqual(first_between((1, 0, 1), (GREAT + 1, 1, GREAT), 1, 10 * GREAT), GREAT - 1)
        self.assertIs(first_between((1, 0, 1), (GREAT + 1, 0, GREAT), 1, GREAT), None)
        self.assertEqual(first_between((GREAT - 1, 0, GREAT), (1, 0, 1), 1, GREAT), 1)
        self.assertEqual(first_between((GREAT - 1, GREAT - 1, GREAT), (1, 0, 1), 0, 2 * GREAT), GREAT)
        self.assertEqual(first_between((0, 0, 1), (1, 0, GREAT), 0, 2 * GREAT), GREAT)

    def test_lines_on_both_sides_of_a_whole_slope(self):
        # Both are n, or k of it, until n is GREAT.
        for k in (1, 5):
            lower, upper = (k * GREAT - 1, GREAT - 1, GREAT), (k * GREAT + 1, 0, GREAT)
            self.assertEqual(first_between(lower, upper, 0, 10 * GREAT), GREAT)
            self.assertIs(first_between(lower, upper, 0, GREAT), None)
            self.assertEqual(first_between((k * GREAT - 1, GREAT - 3, GREAT), upper, 0, 10 * GREAT), GREAT - 2)
            self.assertEqual(first_between(lower, (k * GREAT + 1, 2, GREAT), 0, 10 * GREAT), GREAT - 2)
        # Turned, too: both are n // 7 below GREAT.
        found = first_between((GREAT - 1, GREAT - 1, 7 * GREAT), (GREAT + 1, 0, 7 * GREAT), 0, 10 * GREAT)
        self.assertEqual(found, [n for n in range(GREAT, GREAT + 7) if n % 7 in (0, 6)][0])

    def test_lines_that_are_equal(self):
        for line in ((3, 1, 7), (0, 5, 2), (-4, 1, 9), (GREAT, 3, 10 ** 200)):
            a, b, c = line
            self.assertIs(first_between(line, (5 * a, 5 * b, 5 * c), -10 ** 50, 10 ** 50), None)


class Stairs(unittest.TestCase):
    def test_two_lines_at_each_place(self):
        pairs = list(ordered_pairs(600, 8))
        for k in range(0, len(pairs), 2):
            (one, other, low, high), (more, further, _, _) = pairs[k], pairs[k + 1]
            if any(value_at(more, x) > value_at(further, x) for x in range(low, high)):
                continue
            lower, upper = (one, more), (other, further)
            apart = sorted({*slow_apart(one, other, low, high), *slow_apart(more, further, low, high)})
            self.assertEqual(first_apart(lower, upper, low, high), apart[0] if apart else None)
            self.assertEqual(list(each_apart(lower, upper, low, high)), apart)

    def test_counts_and_indexes_of_pieces(self):
        # The values of x // 3 and (x + 1) // 3 differ at 2, 5, 8 ..
        lower, upper = ((1, 0, 3),), ((1, 1, 3),)
        self.assertEqual([count_apart(lower, upper, 0, 9), apart_at(lower, upper, 0, 9, 2)], [3, 8])
        pieces = [(lower, upper, 0, 9), (lower, upper, 9, 9), (lower, upper, 20, 24)]
        self.assertEqual(count_in(pieces), 5)
        self.assertEqual([index_in(pieces, index) for index in range(5)], [2, 5, 8, 20, 23])
        for index in wrong_indexes(5):
            with self.assertRaises(NoIndex) as caught:
                index_in(pieces, index)
            self.assertIs(caught.exception.index, index)


if __name__ == "__main__":
    unittest.main()
