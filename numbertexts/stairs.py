"""Stairs: the sums of one to three lines."""

from numbertexts.lines import sum_of, value_at


def stair_at(stair, x):
    """Return the value of the stair at x."""
    return sum([value_at(line, x) for line in stair])


def sum_of_stair(stair, low, high):
    """Return the sum of the values of the stair at all numbers of the range."""
    return sum([sum_of(line, low, high) for line in stair])


def are_apart(lower, upper, low, high):
    """Return whether the upper stair is greater at some number of the range."""
    return sum_of_stair(upper, low, high) > sum_of_stair(lower, low, high)


def first_above(lower, upper, low, high):
    """Return the least number of the range at which the upper stair is greater, or None."""
    if not are_apart(lower, upper, low, high):
        return None
    while high - low > 1:
        middle = (low + high) // 2
        if are_apart(lower, upper, low, middle):
            high = middle
        else:
            low = middle
    return low
