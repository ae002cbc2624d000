"""The numbers of a word that are wrong with a row, and those that are slow with it."""

from numbertexts.errors import Coarse, NotSound
from numbertexts.rows import is_sound
from numbertexts.sides import count_unlike, each_unlike, first_unlike, guarded_sides, plain_sides, unlike_at


def check_sound(row):
    """Raise NotSound if the row is not sound."""
    if not is_sound(row):
        raise NotSound(row[0])


def check_countable(form, row):
    """Raise NotSound if the row is not sound, then Coarse if it is coarse for the format."""
    check_sound(row)
    power, g, _, h = row
    # With a row that is not coarse no position is further than 1/2 from the right one, so no code by two steps.
    if g < h << (form[0] + 1):
        raise Coarse(power)


def first_wrong(form, way, word, row):
    """Return the least number of the word that is wrong with the row, or None."""
    return first_unlike(form, way, 1 << word, plain_sides(row))


def each_wrong(form, way, word, row):
    """Yield the numbers of the word that are wrong with the row, in ascending order."""
    limit = 1 << word
    sides = plain_sides(row)
    yield from each_unlike(form, way, limit, sides)


def count_wrong(form, way, word, row):
    """Return how many numbers of the word are wrong with the row."""
    check_countable(form, row)
    return count_unlike(form, way, 1 << word, plain_sides(row))


def wrong_at(form, way, word, row, index):
    """Return the number with this index among those of the word that are wrong with the row."""
    check_countable(form, row)
    return unlike_at(form, way, 1 << word, plain_sides(row), index)


def first_slow(form, way, word, row):
    """Return the least number of the word that is slow with the row, or None."""
    check_sound(row)
    return first_unlike(form, way, 1 << word, guarded_sides(row))


def count_slow(form, way, word, row):
    """Return how many numbers of the word are slow with the row."""
    check_countable(form, row)
    return count_unlike(form, way, 1 << word, guarded_sides(row))


def slow_at(form, way, word, row, index):
    """Return the number with this index among those of the word that are slow with the row."""
    check_countable(form, row)
    return unlike_at(form, way, 1 << word, guarded_sides(row), index)
