"""Lengths of codes: how many digits the shortest decimals have that are read as them by "even"."""

from numbertexts.bounds import MAX_TRIP
from numbertexts.errors import NoIndex
from numbertexts.formats import parts_at
from numbertexts.kinds import is_whole
from numbertexts.printing import shortest
from numbertexts.stretches import code_at, count_unread, sparse_stretches


def length_of(form, code):
    """Return the length of the code."""
    d, _ = shortest(form, "even", code)
    return len(str(d))


def has_longer(form, digits):
    """Return whether some code has a length of more than so many digits."""
    for stretch in sparse_stretches(form, digits):
        if count_unread(form, stretch) > 0:
            return True
    return False


def longest_length(form):
    """Return the greatest length of a code."""
    too_few = 0
    digits = MAX_TRIP
    while digits - too_few > 1:
        middle = (too_few + digits) // 2
        if has_longer(form, middle):
            too_few = middle
        else:
            digits = middle
    return digits


def cut_off(stretch, m):
    """Return the stretch without the numbers above m."""
    e, first, last, num, den = stretch
    return e, first, min(last, m), num, den


def up_to(form, digits, code):
    """Return how many codes from 1 to this one have a length of at most so many digits."""
    m, e = parts_at(form, code)
    longer = 0
    for stretch in sparse_stretches(form, digits):
        if stretch[0] > e or stretch[0] == e and stretch[1] > m:
            break
        reached = cut_off(stretch, m) if stretch[0] == e else stretch
        longer = longer + count_unread(form, reached)
    return code - longer


def count_exact(form, stretch, digits):
    """Return how many codes of the stretch, which is one for a digit less, have just so many digits."""
    e, first, last, num, den = stretch
    # Without a digit there is nothing that a number could be read from.
    shorter = 0 if digits == 1 else last - first + 1 - count_unread(form, stretch)
    return last - first + 1 - shorter - count_unread(form, (e, first, last, num, 10 * den))


def count_length(form, digits):
    """Return how many codes of the format have just this length."""
    fewer = digits - 1
    return sum([count_exact(form, stretch, digits) for stretch in sparse_stretches(form, fewer)])


def exact_at(form, stretch, digits, index):
    """Return the m with this index, which there must be, of those in the stretch with just so many digits."""
    e, first, last, _, _ = stretch
    low, high = first, last
    while low < high:
        middle = (low + high) // 2
        if count_exact(form, cut_off(stretch, middle), digits) > index:
            high = middle
        else:
            low = middle + 1
    return low


def code_with_length(form, digits, index):
    """Return the code with this index among those with just this length."""
    if is_whole(index) and index >= 0:
        left = index
        fewer = digits - 1
        for stretch in sparse_stretches(form, fewer):
            many = count_exact(form, stretch, digits)
            if left < many:
                return code_at(form, exact_at(form, stretch, digits, left), stretch[0])
            left = left - many
    raise NoIndex(index)
