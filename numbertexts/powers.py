"""Whole powers of whole numbers."""


def raised(base, exponent):
    """Return base ** exponent, for an exponent from 0 on."""
    result = 1
    for place in reversed(range(exponent.bit_length())):
        result = result * result
        if (exponent >> place) & 1 == 1:
            result = result * base
    return result
