"""What counts as an integer where any value may be passed."""


def is_whole(value):
    """Return whether the value is an int that is not a bool."""
    return isinstance(value, int) and not isinstance(value, bool)


def is_between(value, least, greatest):
    """Return whether the value is an integer from least to greatest."""
    return is_whole(value) and least <= value <= greatest
