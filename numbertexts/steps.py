"""Stepped tables: rows that are products of a cut row for a multiple of a step and a power of ten below it."""

from numbertexts.bounds import MAX_ROWBITS, MAX_STEP
from numbertexts.cuts import cut_at
from numbertexts.decimals import fraction_of
from numbertexts.powers import raised
from numbertexts.reading import read
from numbertexts.rows import cut_row, plain_read
from numbertexts.sides import plain_sides, some_unlike


def stepped_factor(step, bits, power):
    """Return (g, s) of the row of the stepped table for the power."""
    _, g, s, _ = cut_row(power - power % step, bits)
    product = g * raised(10, power % step)
    many = product.bit_length() - bits
    return product >> many, s + many


def best_at(power, s):
    """Return (n, h): the greatest n with n * 2 ** s at most 10 ** power, h is 0 if it is equal to that, otherwise 1."""
    num, den = fraction_of((1, power))
    return cut_at(num, den, s)


def stepped_row(step, bits, power):
    """Return the row of the stepped table for the power."""
    g, s = stepped_factor(step, bits, power)
    return power, g, s, 0 if best_at(power, s) == (g, 0) else 3


def correction(step, bits, power):
    """Return by how much the factor of the row is less than it could be."""
    g, s = stepped_factor(step, bits, power)
    n, _ = best_at(power, s)
    return n - g


def corrected_row(step, bits, power):
    """Return the row of the stepped table for the power with the greatest factor that there could be."""
    _, s = stepped_factor(step, bits, power)
    n, h = best_at(power, s)
    return power, n, s, h


class Trial:
    """Tries stepped tables for the numbers of a word; knows which powers were wrong lately, and with which number."""

    def __init__(self, form, way, word, low, high):
        self._form = form
        self._way = way
        self._limit = 1 << word
        self._powers = list(range(low, high + 1))
        self._numbers = {}
        self._right = {}

    def is_known_wrong(self, row):
        """Return whether the number that was wrong with a row for this power lately is wrong with this row, too."""
        number = self._numbers.get(row[0])
        if number is None:
            return False
        return plain_read(self._form, self._way, row, number) != read(self._form, self._way, (number, row[0]))

    def is_wrong(self, row):
        """Return whether some number of the word is wrong with the row."""
        if row in self._right:
            return False
        if self.is_known_wrong(row):
            return True
        found = some_unlike(self._form, self._way, self._limit, plain_sides(row))
        if found is None:
            self._right[row] = True
            return False
        self._numbers[row[0]] = found[0]
        return True

    def has_fault(self, step, bits):
        """Return whether the row for one of the powers is wrong for some number."""
        for place, power in enumerate(list(self._powers)):
            if self.is_wrong(stepped_row(step, bits, power)):
                # The next table is most likely wrong for this power, too.
                self._powers = [power, *self._powers[:place], *self._powers[place + 1:]]
                return True
        return False


def step_faults(form, way, word, step, bits, low, high):
    """Return the powers from low to high whose row of the stepped table is wrong for some number of the word."""
    trial = Trial(form, way, word, low, high)
    return tuple([power for power in range(low, high + 1) if trial.is_wrong(stepped_row(step, bits, power))])


def greatest_step(form, way, word, bits, low, high):
    """Return the greatest step for which there are no faults, or None."""
    trial = Trial(form, way, word, low, high)
    for step in reversed(range(1, MAX_STEP + 1)):
        if not trial.has_fault(step, bits):
            return step
    return None


def fewest_step_bits(form, way, word, step, low, high):
    """Return the least number of bits for which there are no faults, or None."""
    trial = Trial(form, way, word, low, high)
    for bits in range(1, MAX_ROWBITS):
        if not trial.has_fault(step, bits):
            return bits
    return None
