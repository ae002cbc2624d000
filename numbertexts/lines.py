"""Lines (a, b, c): the values (a * x + b) // c, their rests and their sums."""

from numbertexts.kinds import is_whole


def value_at(line, x):
    """Return the value of the line at x."""
    a, b, c = line
    return (a * x + b) // c


def rest_at(line, x):
    """Return the rest of the line at x."""
    a, b, c = line
    return (a * x + b) % c


def first_head(line, low, high):
    """Return the first sum row of the range without its total."""
    a, b, c = line
    return max(high - low, 0), a, b + a * low, c


def next_head(n, a, b, c):
    """Return the sum row behind this one without its total; its n is 0 if there is none."""
    reached = a % c * n + b % c
    return reached // c, c, reached % c, a % c


def own_part(n, a, b, c):
    """Return how much the total of a sum row exceeds that of the next one."""
    return (a // c) * (n * (n - 1) // 2) + (b // c) * n


def sum_of(line, low, high):
    """Return the sum of the values at all numbers of the range."""
    n, a, b, c = first_head(line, low, high)
    total = 0
    while n > 0:
        slope, a = divmod(a, c)
        base, b = divmod(b, c)
        total = total + slope * (n * (n - 1) // 2) + base * n
        n, b = divmod(a * n + b, c)
        a, c = c, a
    return total


def sum_heads(line, low, high):
    """Return the sum rows without their totals."""
    n, a, b, c = first_head(line, low, high)
    heads = [(n, a, b, c)]
    while n > 4:
        n, a, b, c = next_head(n, a, b, c)
        if n > 0:
            heads.append((n, a, b, c))
    return heads


def sum_rows(line, low, high):
    """Return the sum rows of the line and the range."""
    heads = sum_heads(line, low, high)
    n, a, b, c = heads[-1]
    total = sum_of((a, b, c), 0, n)
    rows = [(n, a, b, c, total)]
    for n, a, b, c in heads[-2::-1]:
        total = total + own_part(n, a, b, c)
        rows.append((n, a, b, c, total))
    return tuple(rows[::-1])


def sum_rows_hold(line, low, high, value):
    """Return whether the value is the sum rows of the line and the range."""
    if value != sum_rows(line, low, high):
        return False
    # True is equal to 1, but it is not a number of a row.
    return all([is_whole(item) for row in value for item in row])
