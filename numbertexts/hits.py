"""Which rests lines have: where they lie in a window, the least and the greatest ones, and where there is none."""

from math import gcd

from numbertexts.apart import count_apart, index_in
from numbertexts.lines import rest_at


def pair_for(line, window):
    """Return (lower, upper), two lines of which the upper one is above where the line hits the window."""
    a, b, c = line
    least, greatest = window
    # Moved down by least, the line hits where its rest is less than the width, also with a window that goes round.
    width = (greatest - least) % c + 1
    return (a, b - least - width, c), (a, b - least, c)


def count_hits(line, window, low, high):
    """Return at how many numbers of the range the line hits the window."""
    lower, upper = pair_for(line, window)
    return count_apart((lower,), (upper,), low, high)


def next_level(a, c, least, greatest, n):
    """Return what to look for in place of multiples of a that have a rest by c in the window."""
    # x multiples of a, less y multiples of c, lie in the window just if c * y has such a rest by a.
    return -c % a, a, least % a, greatest % a, a * (n - 1) // c + 1


def first_multiple(a, c, least, greatest, n):
    """Return the least x below n at which the rest of a * x is in the window, or None; 0 is not in the window."""
    levels = []
    while n > 1:
        if 2 * a > c:
            a, least, greatest = c - a, c - greatest, c - least
        if a == 0:
            return None
        x = -(-least // a)
        if a * x <= greatest:
            for many, unit, start in levels[::-1]:
                x = -(-(start + unit * x) // many)
            return x
        levels.append((a, c, least))
        a, c, least, greatest, n = next_level(a, c, least, greatest, n)
    return None


def first_hit(line, window, low, high):
    """Return the least number of the range at which the line hits the window, or None."""
    a, b, c = line
    least, greatest = window
    if low >= high:
        return None
    # Counted from the rest at low, the window begins at start.
    start = (least - rest_at(line, low)) % c
    width = (greatest - least) % c + 1
    if start == 0 or start + width > c:
        return low
    many = first_multiple(a % c, c, start, start + width - 1, high - low)
    if many is None or many >= high - low:
        return None
    return low + many


def hit_at(line, window, low, high, index):
    """Return the number with this index among those at which the line hits the window."""
    lower, upper = pair_for(line, window)
    return index_in([((lower,), (upper,), low, high)], index)


def each_hit(line, window, low, high):
    """Yield the numbers of the range at which the line hits the window, in ascending order."""
    found = first_hit(line, window, low, high)
    while found is not None:
        yield found
        found = first_hit(line, window, found + 1, high)


def least_of(line, low, high):
    """Return the least rest of the line on a range that is not empty."""
    a, b, c = line
    a, b, n = a % c, rest_at(line, low), high - low
    best = b
    # The rest looked for is base + sign * a rest of the line (a, b, c) on the numbers below n, the best one is known.
    base, sign = 0, 1
    while n > 0:
        if 2 * a > c:
            a, b, base, sign = c - a, c - 1 - b, base + sign * (c - 1), -sign
        reached = a * (n - 1) + b
        if sign > 0:
            best = min(best, base + b)
        else:
            best = min(best, base - reached % c)
            base = base - (c - a)
        if a == 0:
            return best
        # Only the first rest of each turn can be the least one, only the last of each the greatest one.
        a, b, c, n = -c % a, (b - c) % a, a, reached // c
    return best


def least_rest(line, low, high):
    """Return (rest, x): the least rest on the range and the least number at which it is had, or None."""
    if low >= high:
        return None
    rest = least_of(line, low, high)
    return rest, first_hit(line, (rest, rest), low, high)


def greatest_rest(line, low, high):
    """Return (rest, x): the greatest rest on the range and the least number at which it is had, or None."""
    a, b, c = line
    mirrored = least_rest((-a, -b - 1, c), low, high)
    if mirrored is None:
        return None
    rest, x = mirrored
    return c - 1 - rest, x


def inverse_of(number, unit):
    """Return x from 0 to unit - 1 with number * x = 1 by the unit; the two have no common divisor."""
    rest, next_rest = unit, number % unit
    x, next_x = 0, 1
    while next_rest > 0:
        whole = rest // next_rest
        rest, next_rest = next_rest, rest - whole * next_rest
        x, next_x = next_x, x - whole * next_x
    return x % unit


def members(line, low, high, *, parity=None):
    """Return (first, step, many) for the members of the line in the range, or None."""
    a, b, c = line
    if parity is not None:
        # The value is even or odd just where the whole line has a rest by twice the unit.
        b = b - parity * c
        c = 2 * c
    common = gcd(a, c)
    if b % common != 0:
        return None
    step = c // common
    member = -(b // common) * inverse_of(a // common, step)
    first = low + (member - low) % step
    if first >= high:
        return None
    return first, step, (high - 1 - first) // step + 1
