"""Where two lines have values that are not equal."""

from numbertexts.apart import count_in, first_apart, index_in

NOUGHT = ((0, 0, 1),)
ONE = ((0, 1, 1),)


def difference(one, other):
    """Return (rise, start, unit): at x the real value of one is greater by (rise * x + start) / unit."""
    a, b, c = one
    other_a, other_b, other_c = other
    return a * other_c - other_a * c, b * other_c - other_b * c, c * other_c


def reached_at(rise, start, goal):
    """Return the least x at which rise * x + start is at least the goal, for a rise above 0."""
    return -((start - goal) // rise)


def pairs_of(one, other):
    """Return pairs (lower, upper) for where one is behind by 1 or more, by less, ahead by less than 1, by more."""
    # Real values that are a whole 1 apart never have one value, so each number of the range counts there.
    return [(NOUGHT, ONE), ((one,), (other,)), ((other,), (one,)), (NOUGHT, ONE)]


def pieces_of(one, other, low, high):
    """Return the range in pieces: the lines part where the stairs of a piece differ."""
    rise, start, unit = difference(one, other)
    if rise < 0:
        return pieces_of(other, one, low, high)
    goals = [1 - unit, 0, unit]
    if rise == 0:
        places = [low if start >= goal else high for goal in goals]
    else:
        places = [min(max(reached_at(rise, start, goal), low), high) for goal in goals]
    starts = [low, *places]
    stops = [*places, high]
    pairs = pairs_of(one, other)
    return [(pairs[k][0], pairs[k][1], starts[k], stops[k]) for k in range(4) if starts[k] < stops[k]]


def first_parted(one, other, low, high):
    """Return the least number of the range at which the lines part, or None."""
    for lower, upper, start, stop in pieces_of(one, other, low, high):
        found = first_apart(lower, upper, start, stop)
        if found is not None:
            return found
    return None


def count_parted(one, other, low, high):
    """Return at how many numbers of the range the lines part."""
    return count_in(pieces_of(one, other, low, high))


def parted_at(one, other, low, high, index):
    """Return the number with this index among those at which the lines part."""
    return index_in(pieces_of(one, other, low, high), index)
