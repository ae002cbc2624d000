"""Round trips: codes that are lost with some digits, and decimals that are dropped."""

from numbertexts.bounds import MAX_TRIP
from numbertexts.errors import NoIndex
from numbertexts.gaps import count_missed, missed_at
from numbertexts.kinds import is_whole
from numbertexts.powers import raised, tens_below
from numbertexts.reading import rounded_by
from numbertexts.stretches import code_at, fives_to, half_span, is_half, sparse_stretches, tens_in_steps

# A run is a tuple (many, first, last, num, den, mark): so many of the integers from first to last are left out
# by the multiples of num / den. They are m of codes with the exponent mark, or d of decimals with the q mark.


def run_of(first, last, num, den, mark):
    """Return the run of the integers from first to last."""
    return (count_missed(first, last, num, den), first, last, num, den, mark)


def single_run(is_left_out, number, mark):
    """Return the run of this integer alone."""
    return (1 if is_left_out else 0, number, number, 1, 1, mark)


def is_half_lost(stretch):
    """Return whether the power of two, printed with so many digits, is not read as its code."""
    _, half, _, num, den = stretch
    least, greatest = half_span(stretch)
    printed = 4 * num * rounded_by("even", half * den, num)
    return printed < least or printed > greatest


def lost_runs(form, digits):
    """Yield the runs of the m of codes that are lost with so many digits, those of lesser codes first."""
    for stretch in sparse_stretches(form, digits):
        e, first, last, num, den = stretch
        if is_half(form, stretch):
            # The nearest decimal may lie too far below, although one further above is read as the code.
            yield single_run(is_half_lost(stretch), first, e)
        else:
            yield run_of(first, last, num, den, e)


def is_enough(form, digits):
    """Return whether no code is lost with so many digits."""
    return least_lost(form, digits) is None


def least_lost(form, digits):
    """Return the least code that is lost with so many digits, or None."""
    for many, first, last, num, den, e in lost_runs(form, digits):
        if many > 0:
            return code_at(form, missed_at(first, last, num, den, 0), e)
    return None


def count_lost(form, digits):
    """Return how many codes are lost with so many digits."""
    return sum([run[0] for run in lost_runs(form, digits)])


def lost_at(form, digits, index):
    """Return the code with this index among those that are lost with so many digits."""
    if is_whole(index) and index >= 0:
        left = index
        for many, first, last, num, den, e in lost_runs(form, digits):
            if left < many:
                return code_at(form, missed_at(first, last, num, den, left), e)
            left = left - many
    raise NoIndex(index)


def digits_enough(form):
    """Return the least number of digits that are enough."""
    too_few = 0
    digits = MAX_TRIP
    while digits - too_few > 1:
        middle = (too_few + digits) // 2
        if is_enough(form, middle):
            digits = middle
        else:
            too_few = middle
    return digits


def is_ten_dropped(ten, num, den):
    """Return whether the power of ten, made of so many units of which 2 ** e has num / den, is dropped."""
    read = num * rounded_by("even", ten * den, num)
    if read >= ten * den:
        return rounded_by("even", read, den) != ten
    # A lesser number than the power of ten is printed with a lesser step.
    return rounded_by("even", 10 * read, den) != 10 * ten


def decade_runs(form, e, digits, q, steps):
    """Return the runs of the d of decimals (d, q) that lie among the normal numbers with the exponent."""
    p, _, high = form
    den, num = steps
    ten = raised(10, digits - 1)
    first = max(ten, -((-num << (p - 1)) // den))
    last = (num * ((1 << p) - 1)) // den if e == high else ((num << p) - 1) // den
    last = min(last, 10 * ten - 1)
    if first > last:
        return []
    if first > ten:
        return [run_of(first, last, num, den, q)]
    return [single_run(is_ten_dropped(ten, num, den), ten, q), run_of(ten + 1, last, num, den, q)]


def dropped_runs(form, digits):
    """Yield the runs of the d of decimals that are dropped, those of lesser decimals first."""
    p, low, high = form
    fives = fives_to(max(tens_below(high + p), digits - tens_below(low)))
    for e in range(low, high + 1):
        first_t = tens_below(e + p - 1)
        # From here on neither the decimals nor powers of ten below which they lie closer are closer than the numbers.
        stop_t = tens_below(e) + digits
        for t in range(first_t, min(tens_below(e + p), stop_t) + 1):
            if t < stop_t or t > first_t:
                q = t + 1 - digits
                for run in decade_runs(form, e, digits, q, tens_in_steps(fives, q, e)):
                    yield run


def is_kept(form, digits):
    """Return whether no decimal with so many digits is dropped."""
    return least_dropped(form, digits) is None


def least_dropped(form, digits):
    """Return the decimal with so many digits that has the least value of those that are dropped, or None."""
    for many, first, last, num, den, q in dropped_runs(form, digits):
        if many > 0:
            return (missed_at(first, last, num, den, 0), q)
    return None


def count_dropped(form, digits):
    """Return how many decimals with so many digits are dropped."""
    return sum([run[0] for run in dropped_runs(form, digits)])


def dropped_at(form, digits, index):
    """Return the decimal with this index among those with so many digits that are dropped, in order of value."""
    if is_whole(index) and index >= 0:
        left = index
        for many, first, last, num, den, q in dropped_runs(form, digits):
            if left < many:
                return (missed_at(first, last, num, den, left), q)
            left = left - many
    raise NoIndex(index)


def digits_kept(form):
    """Return the greatest number of digits up to MAX_TRIP that are kept, 0 if not even one is."""
    kept = 0
    too_many = MAX_TRIP + 1
    while too_many - kept > 1:
        middle = (kept + too_many) // 2
        if is_kept(form, middle):
            kept = middle
        else:
            too_many = middle
    return kept
