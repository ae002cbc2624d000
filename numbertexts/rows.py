"""Rows (power, g, s, h) for reading, which stand for powers of ten, and their runs."""

from numbertexts.bounds import MAX_ROW
from numbertexts.cuts import cut_of, four_error, spans
from numbertexts.decimals import fraction_of
from numbertexts.errors import NotSound
from numbertexts.powers import shifted
from numbertexts.reading import greatest_read, read_fraction, rough_position


def row_error(value):
    """Return the word for what keeps the value from being a row, or None."""
    return four_error(value, "power", MAX_ROW)


def is_sound(row):
    """Return whether the power of ten lies where the row says."""
    power, g, s, h = row
    num, den = fraction_of((1, power))
    return spans(g, s, h, num, den)


def cut_row(power, bits):
    """Return the row for the power of ten whose factor has so many bits."""
    num, den = fraction_of((1, power))
    g, s, h = cut_of(num, den, bits)
    return power, g, s, h


def rounded_above(way, n, d):
    """Return the integer to which the real numbers just above n / d are rounded by the way."""
    if way == "zero":
        return n // d
    if way == "out":
        return n // d + 1
    if way == "odd":
        return n // (2 * d) * 2 + 1
    return (2 * n + d) // (2 * d)


def read_above(form, way, num, den):
    """Return the code as which the real numbers just above num / den are read by the way."""
    n, d = rough_position(form, num, den)
    return min(rounded_above(way, n, d), greatest_read(form, way))


def rounded_below(way, n, d):
    """Return the integer to which the real numbers just below n / d, which is above 0, are rounded by the way."""
    if way == "zero":
        return (n - 1) // d
    if way == "out":
        return (n - 1) // d + 1
    if way == "odd":
        return (n - 1) // (2 * d) * 2 + 1
    return (2 * n + d - 1) // (2 * d)


def read_below(form, way, num, den):
    """Return the code as which the real numbers just below num / den, which is above 0, are read by the way."""
    n, d = rough_position(form, num, den)
    return min(rounded_below(way, n, d), greatest_read(form, way))


def plain_read(form, way, row, number):
    """Return the code that the plain run of the row tells for the number."""
    if number == 0:
        return 0
    _, g, s, h = row
    num, den = shifted(number * g, s)
    if h == 0:
        return read_fraction(form, way, num, den)
    return read_above(form, way, num, den)


def guarded_read(form, way, row, number):
    """Return the code that the guarded run of the row tells for the number, or None if the number is slow."""
    power, g, s, h = row
    if not is_sound(row):
        raise NotSound(power)
    num, den = shifted(number * g, s)
    code = read_fraction(form, way, num, den)
    top_num, top_den = shifted(number * (g + h), s)
    return code if read_fraction(form, way, top_num, top_den) == code else None
