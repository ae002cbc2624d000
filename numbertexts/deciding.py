"""How many digits of a decimal decide as which code it is read."""

from numbertexts.decimals import plain_decimal
from numbertexts.powers import decade_of, raised
from numbertexts.printing import exact_decimal


def borders_at(form, way, e):
    """Return (first, last, step, exponent): the borders m * 2 ** exponent next to the numbers with the exponent e."""
    p, low, _ = form
    half = 1 << (p - 1)
    start = 0 if e == low else half
    stop = 2 * half - 1
    if way in ("even", "away"):
        return 2 * start + 1, 2 * stop + 1, 2, e - 1
    if way in ("zero", "out"):
        return max(start, 1), stop, 1, e
    if p == 1:
        # With one bit the code of 2 ** e is not even or odd as m is, which is always 1.
        return 1, (e - low) % 2, 1, e
    return max((start + 1) // 2, 1), stop // 2, 1, e + 1


def digits_of(decimal):
    """Return the number of digits of d without zeros at the end, for a decimal above 0."""
    d, _ = plain_decimal(decimal)
    return decade_of(d, 1) + 1


def enough_for(exponent, digits):
    """Return the least m for which m * 2 ** exponent may have more than so many digits."""
    goal = raised(10, digits)
    unit = raised(5, -exponent) if exponent < 0 else 1 << exponent
    return -(-goal // unit)


def undecided_at(form, way, e, digits):
    """Return the least border next to the numbers with the exponent that has more than so many digits, or None."""
    first, last, step, exponent = borders_at(form, way, e)
    behind = enough_for(exponent, digits) - first
    if behind > 0:
        first = first - (-behind // step) * step
    # Of two neighbours just one can lose digits as zeros at its end, so no third one need be looked at.
    for m in (first, first + step):
        if m <= last:
            decimal = exact_decimal(m, exponent)
            if digits_of(decimal) > digits:
                return decimal
    return None


def most_digits_at(form, way, e):
    """Return the greatest number of digits of a border next to the numbers with the exponent, 0 if there is none."""
    first, last, step, exponent = borders_at(form, way, e)
    picked = [m for m in (last - step, last) if m >= first]
    return max([digits_of(exact_decimal(m, exponent)) for m in picked], default=0)


def deciding_digits(form, way):
    """Return the greatest number of digits of a border, 0 if there is no border."""
    _, low, high = form
    return max([most_digits_at(form, way, e) for e in range(low, high + 1)])


def least_undecided(form, way, digits):
    """Return the least border with more than so many digits, or None."""
    _, low, high = form
    for e in range(low, high + 1):
        border = undecided_at(form, way, e, digits)
        if border is not None:
            return border
    return None


def undecided_pair(form, way, digits):
    """Return two decimals of which the same is kept, which are read as different codes, or None."""
    border = least_undecided(form, way, digits)
    if border is None:
        return None
    d, q = border
    # One on each side of the border: they differ only behind the digits that are kept.
    return ((10 * d - 1, q - 1), (10 * d + 1, q - 1))
