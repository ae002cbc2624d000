"""Numbers of formats, and readers, as objects."""

from numbertexts.decimals import is_decimal
from numbertexts.errors import BadDecimal, BadFormat, BadPath, BadSteps, BadWay, NoCode, OtherFormat
from numbertexts.formats import code_of, count_of, format_error, value_of
from numbertexts.kinds import is_between, is_whole
from numbertexts.paths import path_error, read_by
from numbertexts.powers import shifted
from numbertexts.printing import shortest
from numbertexts.reading import is_way, read


class Number:
    """A number of a format."""

    def __init__(self, form, code):
        error = format_error(form)
        if error is not None:
            raise BadFormat(error)
        if not is_between(code, 0, count_of(form) - 1):
            raise NoCode(code)
        self.form = form
        self.code = code

    def __add__(self, steps):
        """Return the number so many steps above this one."""
        if not is_whole(steps):
            raise BadSteps(steps)
        return Number(self.form, self.code + steps)

    def __sub__(self, other):
        """Return how many steps this number is above the other one, of the same format."""
        if self.form != other.form:
            raise OtherFormat()
        return self.code - other.code

    def __contains__(self, value):
        """Return whether the value is a decimal that is read as this number."""
        return is_decimal(value) and read(self.form, "even", value) == self.code

    def __len__(self):
        return len(str(shortest(self.form, "even", self.code)[0]))

    def __str__(self):
        return "*2**".join([str(part) for part in value_of(self.form, self.code)])

    def __eq__(self, other):
        return isinstance(other, Number) and self.form == other.form and self.code == other.code

    def moved(self, form):
        """Return the number of this format that has the same value, or None."""
        m, e = value_of(self.form, self.code)
        code = code_of(form, m, e)
        return None if code is None else Number(form, code)

    def is_less(self, other):
        """Return whether the value is less than that of the other number."""
        m, e = value_of(self.form, self.code)
        other_m, other_e = value_of(other.form, other.code)
        num, den = shifted(m, e - other_e)
        return num < other_m * den


class Reader:
    """Reads decimals by a path, and otherwise exactly; counts both."""

    def __init__(self, form, way, path):
        error = format_error(form)
        if error is not None:
            raise BadFormat(error)
        if not is_way(way):
            raise BadWay(way)
        error = path_error(path)
        if error is not None:
            raise BadPath(error)
        self._form = form
        self._way = way
        self._path = path
        self.fast = 0
        self.slow = 0
        self.last = None

    def __call__(self, decimal):
        """Return the code as which the decimal is read."""
        if not is_decimal(decimal):
            raise BadDecimal(decimal)
        code = read_by(self._form, self._way, self._path, decimal)
        if code is None:
            code = read(self._form, self._way, decimal)
            self.slow += 1
        else:
            self.fast += 1
        self.last = (decimal, code)
        return code
