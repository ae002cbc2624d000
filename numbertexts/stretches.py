"""The numbers of a format in stretches: m * 2 ** e with one e in one decade, and which decimals are read as them.

Of a stretch (e, first, last, num, den) the m are those from first to last, and num / den is the distance of the
decimals with so many digits there, measured in steps of 2 ** e. A power of two whose lower neighbour lies nearer than
its upper one is a stretch of its own.
"""

from numbertexts.gaps import count_missed
from numbertexts.powers import tens_below


def fives_to(most):
    """Return the list of the powers of five up to 5 ** most."""
    fives = [1]
    for _ in range(most):
        fives.append(5 * fives[-1])
    return fives


def tens_in_steps(fives, k, e):
    """Return (num, den) for 10 ** k, measured in steps of 2 ** e."""
    num, den = (1, fives[-k]) if k < 0 else (fives[k], 1)
    if k < e:
        return num, den << (e - k)
    return num << (k - e), den


def decades_at(fives, e, start, stop, digits):
    """Return the stretches of the m from start on below stop whose decimals lie further apart than the numbers."""
    found = []
    last_t = tens_below(e + (stop - 1).bit_length())
    first_t = max(tens_below(e + start.bit_length() - 1), tens_below(e) + digits)
    for t in range(first_t, last_t + 1):
        num, den = tens_in_steps(fives, t, e)
        first = max(start, -(-num // den))
        last = min(stop, -(-10 * num // den)) - 1
        if first <= last:
            num, den = tens_in_steps(fives, t + 1 - digits, e)
            found.append((e, first, last, num, den))
    return found


def sparse_stretches(form, digits):
    """Yield the stretches in which some numbers may not be read from decimals with so many digits, least ones first."""
    p, low, high = form
    half = 1 << (p - 1)
    fives = fives_to(max(tens_below(high + p) + 1, digits - tens_below(low)))
    for stretch in decades_at(fives, low, 1, 2 * half, digits):
        yield stretch
    for e in range(low + 1, high + 1):
        k = tens_below(e + p - 1) + 1 - digits
        if k > tens_below(e - 1):
            num, den = tens_in_steps(fives, k, e)
            yield e, half, half, num, den
        if tens_below(e + p) >= tens_below(e) + digits:
            for stretch in decades_at(fives, e, half + 1, 2 * half, digits):
                yield stretch


def is_half(form, stretch):
    """Return whether the stretch is a power of two whose lower neighbour lies nearer than its upper one."""
    p, low, _ = form
    return stretch[0] > low and stretch[1] == 1 << (p - 1)


def half_span(stretch):
    """Return (least, greatest): so many quarters of 2 ** e / den are read as the power of two."""
    _, half, _, _, den = stretch
    # The code is even, so both ends belong to it; with one bit it may be odd, but then no decimal lies on an end.
    return (4 * half - 1) * den, (4 * half + 2) * den


def count_unread(form, stretch):
    """Return how many numbers of the stretch are not read from any decimal with so many digits."""
    e, first, last, num, den = stretch
    if is_half(form, stretch):
        least, greatest = half_span(stretch)
        return 0 if greatest - greatest % (4 * num) >= least else 1
    return count_missed(first, last, num, den)


def code_at(form, m, e):
    """Return the code of the number m * 2 ** e with the m and e of the format."""
    p, low, _ = form
    return ((e - low) << (p - 1)) + m
