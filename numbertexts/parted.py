"""Where two lines have values that are not equal."""

from numbertexts.apart import apart_at, count_apart
from numbertexts.errors import NoIndex
from numbertexts.kinds import is_whole

NOUGHT = (0, 0, 1)
ONE = (0, 1, 1)


def difference(one, other):
    """Return (rise, start, unit): at x the real value of one is greater by (rise * x + start) / unit."""
    a, b, c = one
    other_a, other_b, other_c = other
    return a * other_c - other_a * c, b * other_c - other_b * c, c * other_c


def reached_at(rise, start, goal):
    """Return the least x at which rise * x + start is at least the goal, for a rise above 0."""
    return -((start - goal) // rise)


def pairs_of(one, other):
    """Return pairs (lower, upper) for where one is behind by 1 or more, by less, ahead by less than 1, by more."""
    # Real values that are a whole 1 apart never have one value, so each number of the range counts there.
    return [(NOUGHT, ONE), (one, other), (other, one), (NOUGHT, ONE)]


def pieces_of(one, other, low, high):
    """Return the range in pieces (lower, upper, low, high): the lines part where the upper line is above."""
    rise, start, unit = difference(one, other)
    if rise < 0:
        return pieces_of(other, one, low, high)
    goals = [1 - unit, 0, unit]
    if rise == 0:
        places = [low if start >= goal else high for goal in goals]
    else:
        places = [min(max(reached_at(rise, start, goal), low), high) for goal in goals]
    starts = [low, *places]
    stops = [*places, high]
    pairs = pairs_of(one, other)
    return [(pairs[k][0], pairs[k][1], starts[k], stops[k]) for k in range(4) if starts[k] < stops[k]]


def first_parted(one, other, low, high):
    """Return the least number of the range at which the lines part, or None."""
    for lower, upper, start, stop in pieces_of(one, other, low, high):
        if count_apart(lower, upper, start, stop) > 0:
            return apart_at(lower, upper, start, stop, 0)
    return None


def count_parted(one, other, low, high):
    """Return at how many numbers of the range the lines part."""
    return sum([count_apart(*piece) for piece in pieces_of(one, other, low, high)])


def parted_at(one, other, low, high, index):
    """Return the number with this index among those at which the lines part."""
    if is_whole(index) and index >= 0:
        left = index
        for lower, upper, start, stop in pieces_of(one, other, low, high):
            many = count_apart(lower, upper, start, stop)
            if left < many:
                return apart_at(lower, upper, start, stop, left)
            left = left - many
    raise NoIndex(index)
