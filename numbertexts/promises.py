"""Pledges: numbers of bits that are promised to be enough."""

from numbertexts.bounds import MAX_ROWBITS
from numbertexts.errors import BadBits, BadNumber, TooWide
from numbertexts.kinds import is_between


class Pledge:
    """A promise of so many bits at most."""

    def __init__(self, most):
        if not is_between(most, 1, MAX_ROWBITS):
            raise BadBits(most)
        self.most = most

    def spare(self, number):
        """Return how many bits fewer than promised the number has."""
        if not is_between(number, 1, (1 << MAX_ROWBITS) - 1):
            raise BadNumber(number)
        bits = number.bit_length()
        if bits > self.most:
            raise TooWide(bits)
        return self.most - bits
