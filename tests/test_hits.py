import itertools
import random
import unittest

from numbertexts.errors import NoIndex
from numbertexts.hits import count_hits, each_hit, first_hit, greatest_rest, hit_at, least_rest, members
from numbertexts.lines import rest_at, value_at
from slow_ways import wrong_indexes

FAR = 10 ** 60 - 1
GREAT = 10 ** 300 - 1
LONG_RANGES = ((-FAR, FAR), (0, FAR), (-FAR, 0), (FAR - 40, FAR), (-5, 10 ** 30))
LONG_LINES = (
    (3 ** 628, -5 ** 429, 7 ** 354), (-3 ** 628, 5 ** 429, 3 ** 627 + 2), (GREAT - 1, 5, GREAT), (1, 0, GREAT),
    (10 ** 240 + 1, 5, GREAT), (10 ** 59 + 7, 1, 10 ** 60 + 9), (-7, 3, 10), (0, 4, 9), (10 ** 40 + 1, -3, 10 ** 20), (5, 7, 1),
)


def is_hit(line, window, x):
    least, greatest = window
    rest = rest_at(line, x)
    return least <= rest <= greatest if least <= greatest else rest >= least or rest <= greatest


def some_lines():
    picker = random.Random(7)
    for _ in range(160):
        c = picker.choice((1, 2, 3, 5, 8, 12, 30))
        yield picker.randint(-40, 40), picker.randint(-60, 60), c
    yield 0, 0, 1
    yield 0, 5, 7
    yield 6, 3, 12


def some_windows(c):
    """Windows of one rest, of few, of all rests, and such that go round."""
    picker = random.Random(c)
    yield 0, 0
    yield c - 1, c - 1
    yield 0, c - 1
    yield c - 1, 0
    yield c // 2, (c // 2 - 1) % c
    yield c // 2, min(c // 2 + 1, c - 1)
    for _ in range(3):
        yield picker.randrange(c), picker.randrange(c)


def long_windows(c):
    return sorted({(0, 0), (c - 1, 0), (0, c - 1), (c // 3, c // 2), (c // 2, c // 3), (c // 3, c // 3 + c // 10 ** 12),
                   (c // 7, max(c // 7 - 1, 0))})


class Hits(unittest.TestCase):
    def test_short_ranges_against_going_through_them(self):
        for line in some_lines():
            for window in some_windows(line[2]):
                for low, high in ((-11, 25), (4, 5), (-3, 0)):
                    told = (line, window, low, high)
                    hits = [x for x in range(low, high) if is_hit(line, window, x)]
                    self.assertEqual(count_hits(*told), len(hits), told)
                    self.assertEqual(first_hit(*told), hits[0] if hits else None, told)
                    self.assertEqual(list(each_hit(*told)), hits, told)
                    self.assertEqual([hit_at(*told, index) for index in range(len(hits))], hits, told)

    def test_empty_ranges(self):
        for line in ((7, 3, 10), (0, 0, 1), LONG_LINES[0]):
            for low, high in ((4, 4), (4, 3), (FAR, -FAR)):
                for window in ((0, 0), (0, line[2] - 1), (line[2] - 1, 0)):
                    self.assertEqual(count_hits(line, window, low, high), 0)
                    self.assertIs(first_hit(line, window, low, high), None)
                    self.assertEqual(list(each_hit(line, window, low, high)), [])
                    with self.assertRaises(NoIndex):
                        hit_at(line, window, low, high, 0)

    def test_long_ranges_against_the_sums_of_their_parts(self):
        for line in LONG_LINES:
            for window in long_windows(line[2]):
                for low, high in LONG_RANGES:
                    many = count_hits(line, window, low, high)
                    places = [low, low + (high - low) // 3, low + (high - low) // 2 + 1, high - 7, high]
                    self.assertEqual(many, sum(count_hits(line, window, places[k], places[k + 1]) for k in range(4)))
                    first = first_hit(line, window, low, high)
                    self.assertEqual(first is None, many == 0, (line, window, low, high))
                    if first is not None:
                        self.assertTrue(low <= first < high and is_hit(line, window, first))
                        self.assertEqual(count_hits(line, window, low, first), 0)

    def test_a_window_and_the_rests_beside_it_are_all(self):
        for line in LONG_LINES:
            c = line[2]
            for least, greatest in long_windows(c):
                if (greatest + 1 - least) % c != 0:
                    beside = ((greatest + 1) % c, (least - 1) % c)
                    for low, high in LONG_RANGES:
                        both = count_hits(line, (least, greatest), low, high) + count_hits(line, beside, low, high)
                        self.assertEqual(both, high - low)

    def test_indexes_of_long_ranges(self):
        for line in LONG_LINES:
            for window in long_windows(line[2]):
                many = count_hits(line, window, -FAR, FAR)
                for index in {0, many // 2, many - 1} if many > 0 else ():
                    x = hit_at(line, window, -FAR, FAR, index)
                    self.assertTrue(is_hit(line, window, x))
                    self.assertEqual(count_hits(line, window, -FAR, x), index)

    def test_what_is_no_index(self):
        for line, window, low, high in (((7, 3, 10), (0, 1), 0, 10), ((7, 3, 10), (9, 0), 0, 10), ((0, 1, 2), (0, 0), 0, 9),
                                        (LONG_LINES[0], (0, 7 ** 353), -FAR, FAR)):
            for index in wrong_indexes(count_hits(line, window, low, high)):
                with self.assertRaises(NoIndex) as caught:
                    hit_at(line, window, low, high, index)
                self.assertIs(caught.exception.index, index)


class EachHit(unittest.TestCase):
    def test_the_first_items_of_the_longest_ranges(self):
        for line in LONG_LINES:
            for window in long_windows(line[2]):
                many = min(count_hits(line, window, -FAR, FAR), 12)
                found = list(itertools.islice(each_hit(line, window, -FAR, FAR), many))
                self.assertEqual(found, [hit_at(line, window, -FAR, FAR, index) for index in range(many)])

    def test_two_of_them_by_turns(self):
        one = each_hit((7, 3, 10), (0, 1), -FAR, FAR)
        other = each_hit((7, 3, 10), (0, 1), -FAR, FAR)
        third = each_hit(LONG_LINES[0], (0, 7 ** 353), 0, FAR)
        found = []
        for _ in range(5):
            found.append((next(one), next(other)))
            next(third)
        self.assertEqual([x for x, _ in found], [x for _, x in found])
        self.assertEqual([x for x, _ in found], [hit_at((7, 3, 10), (0, 1), -FAR, FAR, index) for index in range(5)])
        self.assertEqual(next(third), hit_at(LONG_LINES[0], (0, 7 ** 353), 0, FAR, 5))

    def test_it_ends(self):
        self.assertEqual(list(each_hit((1, 0, 10 ** 59), (7, 7), 0, FAR)), [7 + k * 10 ** 59 for k in range(10)])


class Rests(unittest.TestCase):
    def test_short_ranges_against_going_through_them(self):
        for line in some_lines():
            for low, high in ((-11, 25), (4, 5), (-3, 0), (0, 8), (7, 60)):
                rests = [(rest_at(line, x), x) for x in range(low, high)]
                self.assertEqual(least_rest(line, low, high), min(rests), (line, low, high))
                greatest = max(rest for rest, _ in rests)
                # The rest is had at several numbers where the range is longer than the turn of the rests.
                self.assertEqual(greatest_rest(line, low, high), (greatest, min(x for rest, x in rests if rest == greatest)))

    def test_empty_ranges(self):
        for line in ((7, 3, 10), (0, 0, 1), LONG_LINES[0]):
            for low, high in ((4, 4), (4, 3), (FAR, -FAR)):
                self.assertIs(least_rest(line, low, high), None)
                self.assertIs(greatest_rest(line, low, high), None)

    def test_long_ranges_against_the_hits(self):
        for line in LONG_LINES:
            c = line[2]
            for low, high in LONG_RANGES:
                rest, x = least_rest(line, low, high)
                self.assertEqual(first_hit(line, (0, rest), low, high), x)
                self.assertEqual(rest_at(line, x), rest)
                if rest > 0:
                    self.assertEqual(count_hits(line, (0, rest - 1), low, high), 0)
                rest, x = greatest_rest(line, low, high)
                self.assertEqual(first_hit(line, (rest, c - 1), low, high), x)
                self.assertEqual(rest_at(line, x), rest)
                if rest < c - 1:
                    self.assertEqual(count_hits(line, (rest + 1, c - 1), low, high), 0)

    def test_many_steps_of_one(self):
        self.assertEqual(least_rest((-1, 10 ** 70, 10 ** 80), 0, FAR), (10 ** 70 - FAR + 1, FAR - 1))
        self.assertEqual(greatest_rest((1, 0, 10 ** 80), 5, FAR), (FAR - 1, FAR - 1))
        self.assertEqual(least_rest((1, 0, 10 ** 80), 5, FAR), (5, 5))


class Members(unittest.TestCase):
    def check_members(self, line, low, high):
        for parity in (None, 0, 1):
            # A turn of twice c holds each distance.
            turn = 2 * line[2]
            xs = [x for x in range(low - turn, high + 2 * turn)
                  if rest_at(line, x) == 0 and (parity is None or value_at(line, x) % 2 == parity)]
            inside = [x for x in xs if low <= x < high]
            told = (inside[0], xs[1] - xs[0], len(inside)) if inside else None
            self.assertEqual(members(line, low, high, parity=parity), told, (line, low, high, parity))

    def test_ranges_with_none_one_and_many(self):
        for line in some_lines():
            for low, high in ((-11, 25), (4, 5), (-3, 0), (0, 90), (5, 5), (5, 2)):
                self.check_members(line, low, high)

    def test_common_divisors_and_flat_lines(self):
        for a, b, c in ((6, 3, 12), (6, 4, 12), (6, 0, 12), (-8, 12, 20), (0, 0, 5), (0, 10, 5), (0, 5, 5), (0, 3, 5),
                        (3, 4, 1), (0, 1, 1), (2, 1, 1), (-1, 0, 1), (12, -12, 6), (10, 5, 10), (10, 0, 10)):
            for low, high in ((-20, 21), (0, 1), (7, 8), (1, 1)):
                self.check_members((a, b, c), low, high)

    def test_without_a_parity_it_is_none(self):
        self.assertEqual(members((7, 3, 10), 0, 30), members((7, 3, 10), 0, 30, parity=None))

    def test_long_ranges(self):
        for line in LONG_LINES:
            c = line[2]
            for low, high in LONG_RANGES:
                many = count_hits(line, (0, 0), low, high)
                found = members(line, low, high)
                self.assertEqual(0 if found is None else found[2], many)
                parts = [members(line, low, high, parity=parity) for parity in (0, 1)]
                self.assertEqual(sum(part[2] for part in parts if part is not None), many)
                for parity, part in enumerate((found, *parts), -1):
                    if part is not None:
                        first, step, some = part
                        self.assertTrue(low <= first < high and first - step < low)
                        for x in {first, first + step, first + (some - 1) * step}:
                            self.assertEqual(rest_at(line, x), 0)
                            self.assertTrue(parity < 0 or value_at(line, x) % 2 == parity)
                        self.assertTrue(first + (some - 1) * step < high <= first + some * step)

    def test_a_member_far_away(self):
        line = (3 ** 200, 10 ** 150, 10 ** 180)
        self.assertIs(members(line, -FAR, FAR), None)
        self.assertEqual(members((10 ** 120, 0, 10 ** 180), -5, FAR), (0, 10 ** 60, 1))
        self.assertEqual(members((10 ** 120, 0, 10 ** 180), -5, FAR, parity=1), None)


if __name__ == "__main__":
    unittest.main()
