"""Whole powers of whole numbers, and where fractions lie among the powers of two and of ten."""


def raised(base, exponent):
    """Return base ** exponent, for an exponent from 0 on."""
    result = 1
    for place in reversed(range(exponent.bit_length())):
        result = result * result
        if (exponent >> place) & 1 == 1:
            result = result * base
    return result


def shifted(n, shift):
    """Return (num, den) for n * 2 ** shift, not always in lowest terms."""
    if shift < 0:
        return n, 1 << -shift
    return n << shift, 1


def tens_below(k):
    """Return the greatest t for which 10 ** t is at most 2 ** k, for k from -2620 to 2620."""
    # 315653 / 2 ** 20 is so near to the logarithm of 2 that it is right for all of these.
    return (k * 315653) >> 20


def log_of(num, den):
    """Return the greatest k for which 2 ** k is at most num / den, which is above 0."""
    k = num.bit_length() - den.bit_length()
    if k >= 0:
        fits = (den << k) <= num
    else:
        fits = den <= (num << -k)
    return k if fits else k - 1


def reaches(num, den, t):
    """Return whether num / den is at least 10 ** t."""
    if t < 0:
        return num * raised(10, -t) >= den
    return num >= den * raised(10, t)


def decade_of(num, den):
    """Return the greatest t for which 10 ** t is at most num / den, which is above 0."""
    # 0.30103 is a little more than the logarithm of 2, so this may be one too great or too small.
    t = log_of(num, den) * 30103 // 100000
    while reaches(num, den, t + 1):
        t = t + 1
    while not reaches(num, den, t):
        t = t - 1
    return t
