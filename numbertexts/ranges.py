"""The ranges of real numbers that are read as a code."""

from numbertexts.formats import parts_at
from numbertexts.reading import greatest_read, read


def odd_parts(m, e):
    """Return (a, k) with an odd a and the value m * 2 ** e, (0, 0) for 0."""
    if m == 0:
        return (0, 0)
    zeros = (m & -m).bit_length() - 1
    return (m >> zeros, e + zeros)


def end_at(form, twice):
    """Return the real number at half the position twice, told as an end."""
    m, e = parts_at(form, twice // 2)
    if twice % 2 == 0:
        return odd_parts(m, e)
    return (2 * m + 1, e - 1)


def doubled_range(way, code):
    """Return the range as twice the positions of its ends, as if codes had no first and no last."""
    place = 2 * code
    if way == "even":
        return place - 1, code % 2 == 0, place + 1, code % 2 == 0
    if way == "away":
        return place - 1, True, place + 1, False
    if way == "zero":
        return place, True, place + 2, False
    if way == "out":
        return place - 2, False, place, True
    if code % 2 == 0:
        return place, True, place, True
    return place - 2, False, place + 2, False


def range_of(form, way, code):
    """Return (lower, has_lower, upper, has_upper) for the range of the code, or None."""
    last = greatest_read(form, way)
    if code > last:
        return None
    start, has_lower, stop, has_upper = doubled_range(way, code)
    if start < 0:
        start = 0
        has_lower = True
    lower = end_at(form, start)
    if code == last:
        return (lower, has_lower, None, False)
    return (lower, has_lower, end_at(form, stop), has_upper)


def is_read_as(form, way, code, decimal):
    """Return whether the decimal is read as the code by the way."""
    return read(form, way, decimal) == code
