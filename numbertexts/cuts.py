"""What rows and print rows share: four integers (.., g, s, h) that stand for g * 2 ** s to (g + h) * 2 ** s."""

from numbertexts.bounds import MAX_ROWBITS
from numbertexts.kinds import is_between
from numbertexts.powers import log_of, shifted

MAX_SHIFT = 3000
MAX_HEIGHT = 3


def four_error(value, word, limit):
    """Return the word for what keeps the value from being a row whose first item, told by word, has this limit."""
    if not isinstance(value, tuple) or len(value) != 4:
        return "row"
    first, g, s, h = value
    if not is_between(first, -limit, limit):
        return word
    if not is_between(g, 1, (1 << MAX_ROWBITS) - 1):
        return "factor"
    if not is_between(s, -MAX_SHIFT, MAX_SHIFT):
        return "shift"
    if not is_between(h, 0, MAX_HEIGHT):
        return "height"
    return None


def cut_at(num, den, s):
    """Return (g, h): the greatest g with g * 2 ** s at most num / den, h is 0 if it is equal to that, otherwise 1."""
    up, down = shifted(1, s)
    g, rest = divmod(num * down, den * up)
    return g, 0 if rest == 0 else 1


def cut_of(num, den, bits):
    """Return (g, s, h): num / den cut to so many bits, h is 0 if it is equal to that, otherwise 1."""
    s = log_of(num, den) - bits + 1
    g, h = cut_at(num, den, s)
    return g, s, h


def spans(g, s, h, num, den):
    """Return whether num / den is at least g * 2 ** s and at most (g + h) * 2 ** s."""
    up, down = shifted(1, s)
    return g * up * den <= num * down <= (g + h) * up * den
