"""The decimals of numbers: the shortest ones, the exact ones and rounded ones."""

from numbertexts.decimals import fraction_of, plain_decimal
from numbertexts.formats import value_of
from numbertexts.powers import decade_of, raised, shifted
from numbertexts.ranges import is_read_as, odd_parts, range_of
from numbertexts.reading import rounded_by


def fraction_at(form, code):
    """Return (num, den) for the value of the number with the code."""
    m, e = value_of(form, code)
    return shifted(m, e)


def in_units(num, den, q):
    """Return (num, den) for the fraction measured in units of 10 ** q."""
    up, down = fraction_of((1, -q))
    return num * up, den * down


def nearer_one(whole, rest, den, q):
    """Return the nearer one of whole * 10 ** q and the next multiple for (whole + rest / den) * 10 ** q."""
    if 2 * rest == den:
        return (whole + whole % 2, q)
    return (whole, q) if 2 * rest < den else (whole + 1, q)


def nearest_read(form, way, code, q):
    """Return the multiple of 10 ** q read as the code that is nearest to its number, or None."""
    num, den = fraction_at(form, code)
    num, den = in_units(num, den, q)
    below = (num // den, q)
    above = (num // den + 1, q)
    has_below = is_read_as(form, way, code, below)
    has_above = is_read_as(form, way, code, above)
    if has_below and has_above:
        return nearer_one(num // den, num % den, den, q)
    if has_below:
        return below
    return above if has_above else None


def shortest(form, way, code):
    """Return the decimal with the fewest digits that is read as the code, of several the nearest one."""
    if code == 0:
        return (0, 0)
    lower, _, upper, _ = range_of(form, way, code)
    if lower == upper:
        return exact(form, code)
    num, den = fraction_at(form, code)
    q = decade_of(num, den)
    # What has so many digits below and above the number comes nearest, so if neither is read as it, none is.
    found = nearest_read(form, way, code, q)
    while found is None:
        q = q - 1
        found = nearest_read(form, way, code, q)
    return plain_decimal(found)


def exact_decimal(m, e):
    """Return the plain decimal with the value m * 2 ** e."""
    odd, k = odd_parts(m, e)
    if k < 0:
        return (odd * raised(5, -k), k)
    return plain_decimal((odd << k, 0))


def exact(form, code):
    """Return the plain decimal with just the value of the number."""
    m, e = value_of(form, code)
    return exact_decimal(m, e)


def nearest_multiple(num, den, q):
    """Return the n for which n * 10 ** q is nearest to num / den, of two the even one."""
    num, den = in_units(num, den, q)
    return rounded_by("even", num, den)


def rounded(form, code, digits):
    """Return the number rounded to so many digits, as a plain decimal."""
    if code == 0:
        return (0, 0)
    num, den = fraction_at(form, code)
    q = decade_of(num, den) + 1 - digits
    return plain_decimal((nearest_multiple(num, den, q), q))


def fixed(form, code, place):
    """Return the n for which n * 10 ** place is nearest to the number, of two the even one."""
    num, den = fraction_at(form, code)
    return nearest_multiple(num, den, place)
