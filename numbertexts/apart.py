"""Pairs of stairs of which each line of the upper one is nowhere below that of the lower one on a range.

A piece is a tuple (lower, upper, low, high) of such stairs and their range.
"""

from numbertexts.errors import NoIndex
from numbertexts.kinds import is_whole
from numbertexts.stairs import sum_of_stair


def first_forked(lower, upper, n):
    """Return the first x below n at which the values differ, or None, for lines of which just the upper one is steep.

    Both begin with the value 0; one rises by less than 1 and is nowhere above x, the other one is nowhere below it.
    """
    rise, start, unit = lower
    a, b, c = upper
    found = start // (unit - rise) + 1
    if a > c:
        found = min(found, -((b - c) // (a - c)))
    return found if found < n else None


def first_between(lower, upper, low, high):
    """Return the least number of the range at which the values of two lines differ, or None."""
    rise, start, unit = lower
    a, b, c = upper
    start, b, n = start + rise * low, b + a * low, high - low
    turned = []
    found = None
    while n > 0:
        base, start = divmod(start, unit)
        slope, rise = divmod(rise, unit)
        if b // c > base:
            found = 0
            break
        a, b = a - slope * c, b % c
        if a >= c:
            found = first_forked((rise, start, unit), (a, b, c), n)
            break
        # Turned lines tell for each value, from 1 on, the first number at which it is had; there may be none.
        n = (a * (n - 1) + b) // c
        turned.append((c, c - b + a - 1, a))
        if rise == 0:
            found = 0 if n > 0 else None
            break
        a, b, c, rise, start, unit = unit, unit - start + rise - 1, rise, c, c - b + a - 1, a
    if found is None:
        return None
    for a, b, c in turned[::-1]:
        found = (a * found + b) // c
    return low + found


def first_apart(lower, upper, low, high):
    """Return the least number of the range at which the values of two lines with one place differ, or None."""
    found = None
    for line, other in zip(lower, upper):
        place = first_between(line, other, low, high)
        if place is not None:
            found = high = place
    return found


def each_apart(lower, upper, low, high):
    """Yield the numbers of the range at which the values of two lines with one place differ, in ascending order."""
    found = first_apart(lower, upper, low, high)
    while found is not None:
        yield found
        found = first_apart(lower, upper, found + 1, high)


def count_apart(lower, upper, low, high):
    """Return at how many numbers of the range the values differ, if nowhere by more than 1."""
    return sum_of_stair(upper, low, high) - sum_of_stair(lower, low, high)


def apart_at(lower, upper, low, high, index):
    """Return the number with this index, which there must be, at which the values differ."""
    while high - low > 1:
        middle = (low + high) // 2
        many = count_apart(lower, upper, low, middle)
        if many > index:
            high = middle
        else:
            index = index - many
            low = middle
    return low


def count_in(pieces):
    """Return at how many numbers of the pieces the values differ."""
    return sum([count_apart(*piece) for piece in pieces])


def index_in(pieces, index):
    """Return the number with this index among those of the pieces, in ascending order, at which the values differ."""
    if is_whole(index) and index >= 0:
        left = index
        for lower, upper, low, high in pieces:
            many = count_apart(lower, upper, low, high)
            if left < many:
                return apart_at(lower, upper, low, high, left)
            left = left - many
    raise NoIndex(index)
