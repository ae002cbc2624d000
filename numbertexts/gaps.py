"""Which integers are left out when the multiples of a fraction are rounded to integers."""


def reached_to(number, num, den):
    """Return how many multiples of num / den, from 0 on, are rounded to at most the number, ties to the even one."""
    return ((2 * number + 1) * den - number % 2) // (2 * num) + 1


def count_missed(first, last, num, den):
    """Return how many of the integers from first to last are left out."""
    # Multiples that lie no further apart than the integers leave none out.
    if num <= den:
        return 0
    return last - first + 1 - (reached_to(last, num, den) - reached_to(first - 1, num, den))


def missed_at(first, last, num, den, index):
    """Return the one with this index, which there must be, of those that are left out."""
    low = first
    while low < last:
        middle = (low + last) // 2
        if count_missed(first, middle, num, den) > index:
            last = middle
        else:
            low = middle + 1
    return low
