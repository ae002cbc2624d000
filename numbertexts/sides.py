"""Two sides between which a fast way of reading is judged: the numbers whose codes on both sides are not alike.

A side is a tuple (factor, strict): it reads the multiples of the factor themselves if strict is 1, and the real
numbers just above them if strict is 0. Sides are a tuple (lower, upper), of which the upper one reads no number as a
lesser code than the lower one does; they are None if both are the same.
"""

from numbertexts.apart import count_in, each_apart, first_apart, index_in
from numbertexts.reading import greatest_read
from numbertexts.runs import falling_runs, is_below, position_line, power_factor, rising_runs, row_factor


def plain_sides(row):
    """Return the sides between which a number is wrong with the row."""
    power, g, s, h = row
    right = (power_factor(power), 1)
    told = (row_factor(g, s), 1 if h == 0 else 0)
    if right == told:
        return None
    return (told, right) if is_below(told[0], right[0]) else (right, told)


def guarded_sides(row):
    """Return the sides between which a number is slow with the row, which is sound."""
    _, g, s, h = row
    if h == 0:
        return None
    return (row_factor(g, s), 1), (row_factor(g + h, s), 1)


def has_middles(line, stop):
    """Return whether a number below stop may have a position half way between two codes."""
    _, _, w = line
    return w % 2 == 0 and w // 2 < stop


def code_stair(way, line, strict):
    """Return the stair whose value is the code, by "odd" half of it, for numbers with this line of positions."""
    u, v, w = line
    if way == "zero":
        return ((u, v, w),)
    if way == "away":
        return ((2 * u, 2 * v + w, 2 * w),)
    if way == "out":
        return ((u, v + w - strict, w),)
    if way == "odd":
        return ((u, v - strict, 2 * w),)
    return ((2 * u, 2 * v + w, 4 * w), (2 * u, 2 * v + 3 * w - strict, 4 * w))


def first_at(way, stair, code):
    """Return the least number whose code is at least this one, by "odd" an odd one."""
    if way == "even":
        line, goal = stair[code % 2], (code + 1) // 2
    else:
        line, goal = stair[0], code // 2 if way == "odd" else code
    a, b, c = line
    return -((b - c * goal) // a)


def judged_run(form, way, sides, run):
    """Return a piece for the run: its stairs differ just where the codes do."""
    (factor, strict), (other, other_strict) = sides
    start, stop, (exponent, other_exponent) = run
    line = position_line(form, factor, exponent)
    other_line = position_line(form, other, other_exponent)
    if way == "even" and not has_middles(line, stop) and not has_middles(other_line, stop):
        way = "away"
    lower = code_stair(way, line, strict)
    # By "odd" the codes differ where an even code lies between both sides, or on one that is strict.
    upper = code_stair(way, other_line, 0 if way == "odd" else other_strict)
    # Where the lower side reads the last code that there is, so does the upper one.
    return lower, upper, start, min(stop, first_at(way, lower, greatest_read(form, way)))


def judged_runs(form, way, limit, sides):
    """Yield the pieces for the numbers below the limit, those with lesser numbers first."""
    if sides is None:
        return
    factors = [factor for factor, strict in sides]
    for run in rising_runs(form, factors, limit):
        yield judged_run(form, way, sides, run)


def first_unlike(form, way, limit, sides):
    """Return the least number below the limit whose codes are not alike, or None."""
    for lower, upper, start, stop in judged_runs(form, way, limit, sides):
        found = first_apart(lower, upper, start, stop)
        if found is not None:
            return found
    return None


def some_unlike(form, way, limit, sides):
    """Return (number, stop): the codes of the number are not alike, those of all from stop on are; None for none."""
    if sides is None:
        return None
    factors = [factor for factor, strict in sides]
    for run in falling_runs(form, factors, limit):
        lower, upper, start, stop = judged_run(form, way, sides, run)
        found = first_apart(lower, upper, start, stop)
        if found is not None:
            return found, stop
    return None


def each_unlike(form, way, limit, sides):
    """Yield the numbers below the limit whose codes are not alike, in ascending order."""
    for lower, upper, start, stop in judged_runs(form, way, limit, sides):
        yield from each_apart(lower, upper, start, stop)


def count_unlike(form, way, limit, sides):
    """Return how many numbers below the limit have codes that are not alike, if none differ by more than a step."""
    return count_in(list(judged_runs(form, way, limit, sides)))


def unlike_at(form, way, limit, sides, index):
    """Return the number with this index among those that count_unlike counts."""
    return index_in(list(judged_runs(form, way, limit, sides)), index)
