"""Slow and plain reckoning that the tests hold against the program."""

from fractions import Fraction

HALF = Fraction(1, 2)

SMALL_FORMATS = (
    (3, -2, 2), (2, -4, -1), (2, 0, 0), (4, -1, 1), (1, 0, 0), (1, -1, 0), (1, -2, 3), (1, 3, 7), (5, -9, -7),
)

WAYS = ("even", "away", "zero", "out", "odd")


def nested(value, levels):
    for level in range(levels):
        value = (value,) if level % 2 == 0 else [value]
    return value


def any_values():
    """Values of every kind that point 3 allows."""
    return [
        None, True, False, 0, 1, -1, 7, 10 ** 1499, -10 ** 1499, "", "a", "even", "Even", "binary16", "x" * 3000,
        "a\nb", (), (1,), (3, -2, 2), (1, 2, 3, 4), ((8, 3, 1, 4, 20),), [], [3, -2, 2], [5, 0], [None], {}, {"a": 1},
        {"binary16": (11, -24, 5)}, ({"a": [1]},), ("even",), nested(1, 20), list(range(2000)),
    ]


def power(base, exponent):
    return Fraction(base) ** exponent


def worth(decimal):
    d, q = decimal
    return d * power(10, q)


def numbers_of(form):
    """The values of all numbers of the format, in ascending order, by the words of point 10."""
    p, low, high = form
    found = set()
    for e in range(low, high + 1):
        for m in range(2 ** p):
            if e == low or m >= 2 ** (p - 1):
                found.add(m * power(2, e))
    return sorted(found)


def real_at(form, place):
    """The real number with this position, a fraction from 0 on; beyond the greatest number it goes on evenly."""
    numbers = numbers_of(form)
    code = min(place.numerator // place.denominator, len(numbers) - 1)
    step = power(2, form[2])
    if code + 1 < len(numbers):
        step = numbers[code + 1] - numbers[code]
    return numbers[code] + (place - code) * step


def decimal_of(real):
    """The decimal with just the value of a fraction whose denominator divides a power of ten."""
    q = 0
    while real.denominator != 1:
        real = real * 10
        q -= 1
    return (real.numerator, q)


def range_by_words(way, code, beyond):
    """(lower, has_lower, upper, has_upper) as positions by the words of point 14; None if the range is empty."""
    last = {"zero": beyond - 1, "odd": beyond - 1 if beyond % 2 == 0 else beyond}.get(way, beyond)
    if code > last:
        return None
    even = code % 2 == 0
    lower, has_lower, upper, has_upper = {
        "even": (code - HALF, even, code + HALF, even),
        "away": (code - HALF, True, code + HALF, False),
        "zero": (code, True, code + 1, False),
        "out": (code - 1, False, code, True),
        "odd": (code, True, code, True) if even else (code - 1, False, code + 1, False),
    }[way]
    if lower < 0:
        lower, has_lower = 0, True
    if code == last:
        upper, has_upper = None, False
    return Fraction(lower), has_lower, upper, has_upper


def lies_in(place, span):
    """Whether the position lies in the range, told by positions."""
    if span is None:
        return False
    lower, has_lower, upper, has_upper = span
    if place < lower or place == lower and not has_lower:
        return False
    return upper is None or place < upper or place == upper and has_upper


def code_by_words(way, place, beyond):
    """The one code in whose range the position lies."""
    codes = [code for code in range(beyond + 1) if lies_in(place, range_by_words(way, code, beyond))]
    if len(codes) != 1:
        raise AssertionError((way, place, beyond, codes))
    return codes[0]
