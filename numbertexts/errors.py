"""The errors of the package; each keeps what it was given."""


class NumberError(ValueError):
    """The base of the errors about values."""


class NotSound(NumberError):
    """The row of this power is not sound."""

    def __init__(self, power):
        self.power = power


class Coarse(NumberError):
    """The row of this power is too coarse for the format."""

    def __init__(self, power):
        self.power = power


class BadText(NumberError):
    """No number text goes on with the character at this place."""

    def __init__(self, place):
        self.place = place


class BadFormat(NumberError):
    """The value is not a format."""

    def __init__(self, error):
        self.error = error


class BadWay(NumberError):
    """The value is not a way."""

    def __init__(self, value):
        self.value = value


class BadPath(NumberError):
    """The value is not a path."""

    def __init__(self, error):
        self.error = error


class BadDecimal(NumberError):
    """The value is not a decimal."""

    def __init__(self, value):
        self.value = value


class BadSteps(NumberError):
    """The value is not a number of steps."""

    def __init__(self, value):
        self.value = value


class OtherFormat(NumberError):
    """The formats of two numbers are not equal."""


class BadWord(NumberError):
    """The value is not a word."""

    def __init__(self, value):
        self.value = value


class BadRow(NumberError):
    """The value is not a row."""

    def __init__(self, error):
        self.error = error


class TooManyRows(NumberError):
    """There is no room for a further row."""


class Guarded(NumberError):
    """The row of this power is guarded."""

    def __init__(self, power):
        self.power = power


class Busy(NumberError):
    """A watch of the desk runs."""


class TooManyEdits(NumberError):
    """There is no room for a further edit."""


class NothingToUndo(NumberError):
    """No edit stands."""


class BadEdits(NumberError):
    """The value is not a batch of edits."""


class BadEdit(NumberError):
    """The item with this index is not an edit."""

    def __init__(self, index):
        self.index = index


class Rejected(NumberError):
    """The edit with this index raised an error."""

    def __init__(self, index):
        self.index = index


class BadBits(NumberError):
    """The value is not a number of bits."""

    def __init__(self, value):
        self.value = value


class BadNumber(NumberError):
    """The value is not a number that can be measured."""

    def __init__(self, value):
        self.value = value


class TooWide(NumberError):
    """A number has so many bits, which are too many."""

    def __init__(self, bits):
        self.bits = bits


class Wrong(NumberError):
    """The row of this power reads this number wrongly."""

    def __init__(self, power, number):
        self.power = power
        self.number = number


class NoIndex(LookupError):
    """Nothing is counted by this index."""

    def __init__(self, index):
        self.index = index


class NoCode(LookupError):
    """No number of the format has this code."""

    def __init__(self, code):
        self.code = code


class NoFormat(LookupError):
    """No format is known by this name."""

    def __init__(self, name):
        self.name = name


class NoRow(LookupError):
    """There is no row with this power."""

    def __init__(self, value):
        self.value = value


class NoGuard(LookupError):
    """The row of this power has no guard."""

    def __init__(self, power):
        self.power = power


class NoVersion(LookupError):
    """There is no such version."""

    def __init__(self, value):
        self.value = value
