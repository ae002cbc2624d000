"""Decimals that are hard to read, because they lie half way between two numbers of a format or near to that."""

from math import gcd

from numbertexts.apart import count_in, each_apart, index_in
from numbertexts.errors import NoIndex
from numbertexts.hits import first_hit, least_of, members, pair_for
from numbertexts.kinds import is_whole
from numbertexts.runs import least_reaching, position_line, power_factor, rising_runs


def middle_runs(form, power, word):
    """Yield (line, start, stop) for the decimals that are looked at: the rest of the line is 0 just for ties."""
    p, _, high = form
    factor = power_factor(power)
    factors = [factor]
    limit = min(1 << word, least_reaching(factor, p + high))
    for start, stop, exponents in rising_runs(form, factors, limit):
        u, _, w = position_line(form, factor, exponents[0])
        # Divided by twice w, the rest tells how far the position is above a middle.
        yield (2 * u, w, 2 * w), start, stop


def tied_runs(form, power, word):
    """Return tuples (first, step, many) for all ties, in ascending order."""
    found = [members(line, start, stop) for line, start, stop in middle_runs(form, power, word)]
    return [run for run in found if run is not None]


def count_ties(form, power, word):
    """Return how many of the decimals are ties."""
    return sum([many for first, step, many in tied_runs(form, power, word)])


def tie_at(form, power, word, index):
    """Return the d of the tie with this index."""
    if is_whole(index) and index >= 0:
        left = index
        for first, step, many in tied_runs(form, power, word):
            if left < many:
                return first + step * left
            left = left - many
    raise NoIndex(index)


def least_distance(line, start, stop):
    """Return the least distance above 0 of the rests from a multiple of the unit, which is the unit if all are 0."""
    a, b, c = line
    return 1 + min(least_of((a, b - 1, c), start, stop), least_of((-a, -b - 1, c), start, stop))


def first_with_distance(line, distance, start, stop):
    """Return the least number at which the rest has this distance from a multiple of the unit; there is one."""
    _, _, c = line
    below = first_hit(line, (c - distance, c - distance), start, stop)
    above = first_hit(line, (distance, distance), start, stop)
    return min([found for found in (below, above) if found is not None])


def hardest(form, power, word):
    """Return (d, (num, den)) for the least distance above 0 and the least d that has it, or None."""
    best, best_run = (1, 1), None
    for line, start, stop in middle_runs(form, power, word):
        num, den = least_distance(line, start, stop), line[2]
        if num * best[1] < best[0] * den:
            best, best_run = (num, den), (line, num, start, stop)
    if best_run is None:
        return None
    num, den = best
    common = gcd(num, den)
    return first_with_distance(*best_run), (num // common, den // common)


def near_windows(unit, num, den):
    """Return the windows for rests above 0 that are at most num / den of the unit from a multiple of it."""
    reach = unit * num // den
    if reach == 0:
        return []
    if 2 * reach >= unit:
        return [(1, unit - 1)]
    return [(1, reach), (unit - reach, unit - 1)]


def near_pieces(form, power, word, num, den):
    """Yield the pieces for the decimals that are near a middle, in ascending order."""
    for line, start, stop in middle_runs(form, power, word):
        pairs = [pair_for(line, window) for window in near_windows(line[2], num, den)]
        yield tuple([lower for lower, upper in pairs]), tuple([upper for lower, upper in pairs]), start, stop


def count_near(form, power, word, num, den):
    """Return how many of the decimals have a distance above 0 and at most num / den."""
    return count_in(list(near_pieces(form, power, word, num, den)))


def near_at(form, power, word, num, den, index):
    """Return the d with this index among those with a distance above 0 and at most num / den."""
    return index_in(list(near_pieces(form, power, word, num, den)), index)


def each_near(form, power, word, num, den):
    """Yield the d of the decimals with a distance above 0 and at most num / den, in ascending order."""
    for lower, upper, start, stop in near_pieces(form, power, word, num, den):
        yield from each_apart(lower, upper, start, stop)
