"""Round trips: codes that are lost with some digits, and decimals that are dropped."""

from numbertexts.bounds import MAX_TRIP
from numbertexts.decimals import plain_decimal
from numbertexts.errors import NoIndex
from numbertexts.gaps import count_missed, missed_at
from numbertexts.kinds import is_whole
from numbertexts.powers import decade_of, raised, shifted
from numbertexts.printing import in_units, rounded
from numbertexts.reading import read

# A run is a tuple (many, first, last, num, den, mark): so many of the integers from first to last are left out
# by the multiples of num / den. They are m of codes with the exponent mark, or d of decimals with the q mark.


def run_of(first, last, num, den, mark):
    """Return the run of the integers from first to last."""
    return (count_missed(first, last, num, den), first, last, num, den, mark)


def code_at(form, m, e):
    """Return the code of the number m * 2 ** e with the m and e of the format."""
    p, low, _ = form
    return ((e - low) << (p - 1)) + m


def is_lost(form, code, digits):
    """Return whether the code is lost with so many digits."""
    return read(form, "even", rounded(form, code, digits)) != code


def lost_within(first, last, e, digits):
    """Return the runs of the m from first to last, which have evenly spaced numbers around them, at the exponent."""
    runs = []
    while first <= last:
        num, den = shifted(first, e)
        t = decade_of(num, den)
        up, down = shifted(1, -e)
        num, den = in_units(up, down, -t - 1)
        # num / den is the next power of ten, measured in steps of the format.
        stop = -(-num // den)
        runs.append(run_of(first, min(last, stop - 1), num, den * raised(10, digits), e))
        first = stop
    return runs


def lost_runs(form, digits):
    """Yield the runs of the m of codes that are lost with so many digits, those of lesser codes first."""
    p, low, high = form
    half = 1 << (p - 1)
    for run in lost_within(1, 2 * half - 1, low, digits):
        yield run
    for e in range(low + 1, high + 1):
        # Below a power of two the numbers lie closer together than above it.
        if is_lost(form, code_at(form, half, e), digits):
            yield (1, half, half, 1, 1, e)
        for run in lost_within(half + 1, 2 * half - 1, e, digits):
            yield run


def is_enough(form, digits):
    """Return whether no code is lost with so many digits."""
    return least_lost(form, digits) is None


def least_lost(form, digits):
    """Return the least code that is lost with so many digits, or None."""
    for many, first, last, num, den, e in lost_runs(form, digits):
        if many > 0:
            return code_at(form, missed_at(first, last, num, den, 0), e)
    return None


def count_lost(form, digits):
    """Return how many codes are lost with so many digits."""
    return sum([run[0] for run in lost_runs(form, digits)])


def lost_at(form, digits, index):
    """Return the code with this index among those that are lost with so many digits."""
    if is_whole(index) and index >= 0:
        left = index
        for many, first, last, num, den, e in lost_runs(form, digits):
            if left < many:
                return code_at(form, missed_at(first, last, num, den, left), e)
            left = left - many
    raise NoIndex(index)


def digits_enough(form):
    """Return the least number of digits that are enough."""
    too_few = 0
    digits = MAX_TRIP
    while digits - too_few > 1:
        middle = (too_few + digits) // 2
        if is_enough(form, middle):
            digits = middle
        else:
            too_few = middle
    return digits


def is_dropped(form, decimal, digits):
    """Return whether the decimal, which has so many digits, is dropped."""
    code = read(form, "even", decimal)
    return rounded(form, code, digits) != plain_decimal(decimal)


def bounds_in(form, e, q):
    """Return (first, last): for these d the decimal (d, q) lies among the normal numbers with the exponent."""
    p, _, high = form
    up, down = shifted(1, e)
    num, den = in_units(up, down, q)
    first = -(-(num << (p - 1)) // den)
    if e == high:
        return first, (num * ((1 << p) - 1)) // den
    return first, ((num << p) - 1) // den


def dropped_within(form, e, digits):
    """Return the runs of the d of decimals that lie among the normal numbers with the exponent."""
    p, _, _ = form
    num, den = shifted(1, e + p - 1)
    q = decade_of(num, den) + 1 - digits
    least = raised(10, digits - 1)
    first, last = bounds_in(form, e, q)
    runs = []
    while least <= last:
        first = max(first, least)
        last = min(last, 10 * least - 1)
        # A power of ten that is read as a lesser number is printed with a lesser step.
        if first == least:
            runs.append((1 if is_dropped(form, (first, q), digits) else 0, first, first, 1, 1, q))
            first = first + 1
        up, down = shifted(1, e)
        num, den = in_units(up, down, q)
        runs.append(run_of(first, last, num, den, q))
        q = q + 1
        first, last = bounds_in(form, e, q)
    return runs


def dropped_runs(form, digits):
    """Yield the runs of the d of decimals that are dropped, those of lesser decimals first."""
    _, low, high = form
    for e in range(low, high + 1):
        for run in dropped_within(form, e, digits):
            yield run


def is_kept(form, digits):
    """Return whether no decimal with so many digits is dropped."""
    return least_dropped(form, digits) is None


def least_dropped(form, digits):
    """Return the decimal with so many digits that has the least value of those that are dropped, or None."""
    for many, first, last, num, den, q in dropped_runs(form, digits):
        if many > 0:
            return (missed_at(first, last, num, den, 0), q)
    return None


def count_dropped(form, digits):
    """Return how many decimals with so many digits are dropped."""
    return sum([run[0] for run in dropped_runs(form, digits)])


def dropped_at(form, digits, index):
    """Return the decimal with this index among those with so many digits that are dropped, in order of value."""
    if is_whole(index) and index >= 0:
        left = index
        for many, first, last, num, den, q in dropped_runs(form, digits):
            if left < many:
                return (missed_at(first, last, num, den, left), q)
            left = left - many
    raise NoIndex(index)


def digits_kept(form):
    """Return the greatest number of digits up to MAX_TRIP that are kept, 0 if not even one is."""
    kept = 0
    too_many = MAX_TRIP + 1
    while too_many - kept > 1:
        middle = (kept + too_many) // 2
        if is_kept(form, middle):
            kept = middle
        else:
            too_many = middle
    return kept
