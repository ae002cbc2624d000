"""Formats (p, low, high), their numbers m * 2 ** e and the codes of these."""

from numbertexts.bounds import MAX_BITS, MAX_EXP
from numbertexts.errors import NoCode, NoFormat
from numbertexts.kinds import is_between

TOLD_FORMATS = {
    "binary16": (11, -24, 5),
    "bfloat16": (8, -133, 120),
    "binary32": (24, -149, 104),
    "binary64": (53, -1074, 971),
}


def is_format(value):
    """Return whether the value is a format."""
    return format_error(value) is None


def format_error(value):
    """Return the word for what keeps the value from being a format, or None."""
    if not isinstance(value, tuple) or len(value) != 3:
        return "format"
    p, low, high = value
    if not is_between(p, 1, MAX_BITS):
        return "precision"
    if not is_between(low, -MAX_EXP, MAX_EXP):
        return "low"
    if not is_between(high, low, MAX_EXP):
        return "high"
    return None


def told_format(name):
    """Return the format that is known by this name."""
    # A value of another kind may not be a key at all.
    if not isinstance(name, str) or name not in TOLD_FORMATS:
        raise NoFormat(name)
    return TOLD_FORMATS[name]


def count_of(form):
    """Return how many numbers the format has; this is the code of beyond, too."""
    p, low, high = form
    return (high - low + 2) << (p - 1)


def value_of(form, code):
    """Return (m, e) for the number m * 2 ** e with the code."""
    if not is_between(code, 0, count_of(form) - 1):
        raise NoCode(code)
    return parts_at(form, code)


def parts_at(form, code):
    """Return (m, e) for a code from 0 to that of beyond, as if the format went on there."""
    p, low, _ = form
    above = max((code >> (p - 1)) - 1, 0)
    return code - (above << (p - 1)), low + above


def code_of(form, m, e):
    """Return the code of the number m * 2 ** e, or None if the format has none."""
    p, low, high = form
    if m == 0:
        return 0
    exponent = max(low, e + m.bit_length() - p)
    if exponent > high:
        return None
    if e >= exponent:
        own = m << (e - exponent)
    else:
        own = m >> (exponent - e)
        if (own << (exponent - e)) != m:
            return None
    return ((exponent - low) << (p - 1)) + own
