"""Paths (word, rows, guards), which read decimals by rows, and the fewest bits of rows that serve."""

from numbertexts.bounds import MAX_ROWS, MAX_WORD
from numbertexts.decimals import fraction_of
from numbertexts.errors import NotSound
from numbertexts.kinds import is_between, is_whole
from numbertexts.reading import read
from numbertexts.rows import cut_row, guarded_read, is_sound, plain_read, read_above, read_below, row_error
from numbertexts.sides import guarded_sides, plain_sides, some_unlike
from numbertexts.wrongs import first_wrong


def is_word(value):
    """Return whether the value is a word."""
    return is_between(value, 1, MAX_WORD)


def rows_error(rows):
    """Return (index, word) for the first item that keeps the tuple from being the rows of a path, or None."""
    for index, row in enumerate(rows):
        if row_error(row) is not None:
            return (index, "row")
        if index > 0 and row[0] <= rows[index - 1][0]:
            return (index, "order")
    return None


def row_with(rows, power):
    """Return the row with this power, or None; any value may be passed as the power."""
    if is_whole(power):
        for row in rows:
            if row[0] == power:
                return row
    return None


def guards_error(rows, guards):
    """Return (index, word) for the first item that keeps the tuple from being the guards of a path, or None."""
    for index, power in enumerate(guards):
        row = row_with(rows, power)
        if row is None or not is_sound(row) or index > 0 and power <= guards[index - 1]:
            return (index, "guard")
    return None


def path_error(value):
    """Return (index, word) for what keeps the value from being a path, or None."""
    if not isinstance(value, tuple) or len(value) != 3:
        return (None, "path")
    word, rows, guards = value
    if not is_word(word):
        return (None, "word")
    if not isinstance(rows, tuple) or len(rows) > MAX_ROWS:
        return (None, "rows")
    error = rows_error(rows)
    if error is not None:
        return error
    if not isinstance(guards, tuple):
        return (None, "guards")
    return guards_error(rows, guards)


def read_by(form, way, path, decimal):
    """Return the code that the path tells for the decimal, or None if it tells none."""
    word, rows, guards = path
    d, q = decimal
    row = row_with(rows, q)
    if row is None or d >= 1 << word:
        return None
    if q in guards:
        return guarded_read(form, way, row, d)
    return plain_read(form, way, row, d)


def path_fault(form, way, path):
    """Return (power, number) for the least number that is wrong with the first row that needs a guard, or None."""
    word, rows, guards = path
    for row in rows:
        if row[0] not in guards:
            number = first_wrong(form, way, word, row)
            if number is not None:
                return (row[0], number)
    return None


def needed_guards(form, way, word, rows):
    """Return the pairs (power, number) of the rows that need a guard, with the least number that is wrong."""
    pairs = []
    for row in rows:
        number = first_wrong(form, way, word, row)
        if number is not None:
            if not is_sound(row):
                raise NotSound(row[0])
            pairs.append((row[0], number))
    return tuple(pairs)


def is_served(form, way, row, number, guarded):
    """Return whether the number is not wrong with the row, or with guarded not slow."""
    if guarded:
        return guarded_read(form, way, row, number) is not None
    return plain_read(form, way, row, number) == read(form, way, (number, row[0]))


def is_hopeless(form, way, power, number, guarded):
    """Return whether the number is wrong, or with guarded slow, with every row that is only near the power of ten."""
    num, den = fraction_of((number, power))
    below = read_below(form, way, num, den)
    if guarded:
        return below != read_above(form, way, num, den)
    return below != read(form, way, (number, power))


def bits_for(form, way, power, number, bits, guarded):
    """Return the least number of bits from this one on with which the number is served, or None if there is none."""
    # Below 0 no cut row is the power of ten itself.
    if power < 0 and is_hopeless(form, way, power, number, guarded):
        return None
    while not is_served(form, way, cut_row(power, bits), number, guarded):
        bits += 1
    return bits


def fewest_bits(form, way, word, power, *, guarded=False):
    """Return the least number of bits with which the cut row serves for all numbers of the word, or None."""
    bits = 1
    limit = 1 << word
    while bits is not None:
        row = cut_row(power, bits)
        # What is served with fewer bits is served with more, so the numbers above the limit are done with.
        found = some_unlike(form, way, limit, guarded_sides(row) if guarded else plain_sides(row))
        if found is None:
            return bits
        number, limit = found
        bits = bits_for(form, way, power, number, bits + 1, guarded)
    return None
