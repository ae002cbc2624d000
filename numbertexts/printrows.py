"""Print rows (exponent, g, s, h), which stand for scales, and printing with them."""

from numbertexts.bounds import MAX_EXP
from numbertexts.cuts import cut_of, four_error
from numbertexts.decimals import fraction_of, plain_decimal
from numbertexts.formats import count_of, value_of
from numbertexts.parted import count_parted, first_parted
from numbertexts.powers import shifted, tens_below
from numbertexts.reading import read_fraction

LEAST_FAST = 11


def place_of(exponent):
    """Return the greatest k with 10 ** k <= 2 ** exponent."""
    return tens_below(exponent)


def scale_of(exponent):
    """Return (num, den) for 2 ** (exponent - 1) / 10 ** place_of(exponent)."""
    up, down = shifted(1, exponent - 1)
    num, den = fraction_of((1, -place_of(exponent)))
    return num * up, den * down


def top_of(row):
    """Return (num, den) for the top of the print row."""
    _, g, s, h = row
    return shifted(g + h, s)


def print_row_error(value):
    """Return the word for what keeps the value from being a print row, or None."""
    return four_error(value, "exponent", MAX_EXP)


def cut_print_row(exponent, bits):
    """Return the print row for the exponent whose factor has so many bits."""
    num, den = scale_of(exponent)
    g, s, h = cut_of(num, den, bits)
    return exponent, g, s, h


def fast_span(form, exponent):
    """Return (low, high): the fast numbers for the exponent are the m * 2 ** exponent with low <= m < high."""
    p, least, greatest = form
    if exponent < least or exponent > greatest:
        return 0, 0
    low = LEAST_FAST
    if exponent > least:
        low = max(low, (1 << (p - 1)) + 1)
    return low, max(low, 1 << p)


def quotient_lines(num, den):
    """Return the lines over m whose values are the three quotients by num / den."""
    return [(2 * num, -num, den), (4 * num, 0, den), (2 * num, num, den)]


def fast_number(form, row, code):
    """Return m if the code is that of a fast number m * 2 ** e for the exponent of the print row, otherwise None."""
    if code == count_of(form):
        return None
    m, e = value_of(form, code)
    low, high = fast_span(form, row[0])
    return m if e == row[0] and low <= m < high else None


def end_of(form, way, exponent, half, code):
    """Return whether half * 2 ** (exponent - 1) is a multiple of 10 ** k, and whether it is read as the code."""
    num, den = scale_of(exponent)
    up, down = shifted(half, exponent - 1)
    return half * num % den == 0, read_fraction(form, way, up, down) == code


def nearest_by(exponent, m, doubled):
    """Return the multiple of 10 ** k that is told for m * 2 ** exponent by the quotient B, which is doubled."""
    num, den = scale_of(exponent)
    if 4 * m * num % (2 * den) == den:
        return doubled // 2 + doubled // 2 % 2
    return (doubled + 1) // 2


def fast_shortest(form, way, row, code):
    """Return the decimal that the print row tells for the code, None where it tells none."""
    m = fast_number(form, row, code)
    if way not in ("even", "away") or m is None:
        return None
    exponent = row[0]
    num, den = top_of(row)
    first = (2 * m - 1) * num // den + 1
    last = (2 * m + 1) * num // den
    is_whole, is_read = end_of(form, way, exponent, 2 * m - 1, code)
    if is_whole and is_read:
        first = first - 1
    is_whole, is_read = end_of(form, way, exponent, 2 * m + 1, code)
    if is_whole and not is_read:
        last = last - 1
    n = last - last % 10
    if n < first:
        n = nearest_by(exponent, m, 4 * m * num // den)
    return plain_decimal((n, place_of(exponent)))


def compared_lines(row):
    """Return a pair of lines for each of the three quotients: by the top of the print row, and by the scale."""
    num, den = top_of(row)
    right_num, right_den = scale_of(row[0])
    mine = quotient_lines(num, den)
    right = quotient_lines(right_num, right_den)
    return [(mine[k], right[k]) for k in range(3)]


def first_wrong_print(form, row):
    """Return the least code of a fast number of which a quotient is not right, or None."""
    p, least, _ = form
    low, high = fast_span(form, row[0])
    found = None
    for mine, right in compared_lines(row):
        m = first_parted(mine, right, low, high)
        if m is not None:
            found = m
            high = m
    if found is None:
        return None
    return ((row[0] - least) << (p - 1)) + found


def count_wrong_print(form, row):
    """Return how many quotients of fast numbers are not right."""
    low, high = fast_span(form, row[0])
    return sum([count_parted(mine, right, low, high) for mine, right in compared_lines(row)])


def fewest_print_bits(form, exponent):
    """Return the least number of bits with which the cut print row is right for the format."""
    too_few = 0
    bits = 1
    while first_wrong_print(form, cut_print_row(exponent, bits)) is not None:
        too_few = bits
        bits = 2 * bits
    while bits - too_few > 1:
        middle = (too_few + bits) // 2
        if first_wrong_print(form, cut_print_row(exponent, middle)) is not None:
            too_few = middle
        else:
            bits = middle
    return bits
