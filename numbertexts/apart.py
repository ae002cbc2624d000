"""Pairs of lines of which the upper one has the value of the lower one, or one more, on a range."""

from numbertexts.lines import sum_of


def count_apart(lower, upper, low, high):
    """Return at how many numbers of the range the values differ."""
    return sum_of(upper, low, high) - sum_of(lower, low, high)


def apart_at(lower, upper, low, high, index):
    """Return the number with this index, which there must be, at which the values differ."""
    while high - low > 1:
        middle = (low + high) // 2
        many = count_apart(lower, upper, low, middle)
        if many > index:
            high = middle
        else:
            index = index - many
            low = middle
    return low
