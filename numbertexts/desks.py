"""Desks, on which a way, rows and guards are edited, with undo."""

from numbertexts.bounds import BATCH, MAX_ROWS
from numbertexts.decimals import plain_decimal
from numbertexts.errors import (
    BadEdit, BadEdits, BadFormat, BadRow, BadWay, BadWord, Busy, Guarded, NoGuard, NoRow, NothingToUndo, NotSound,
    NoVersion, NumberError, Rejected, TooManyEdits, TooManyRows, TooWide, Wrong)
from numbertexts.formats import format_error
from numbertexts.kinds import is_between
from numbertexts.paths import is_word, read_by, row_with
from numbertexts.promises import Pledge
from numbertexts.reading import is_way
from numbertexts.rows import is_sound, row_error
from numbertexts.texts import parse_text, read_text
from numbertexts.wrongs import first_wrong

# The edits, and how many values each of them takes.
EDITS = {"put": 4, "drop": 1, "guard": 1, "unguard": 1, "turn": 1}
MOST_KNOWN = 1000


def is_edit(value):
    """Return whether the value is an edit, with values of any kind."""
    if not isinstance(value, tuple) or len(value) == 0 or not isinstance(value[0], str):
        return False
    return value[0] in EDITS and len(value) == 1 + EDITS[value[0]]


def do_edit(desk, edit):
    """Do the edit by the method of its name and return the new version."""
    name, *values = edit
    if name == "put":
        return desk.put(*values)
    if name == "drop":
        return desk.drop(*values)
    if name == "guard":
        return desk.guard(*values)
    if name == "unguard":
        return desk.unguard(*values)
    return desk.turn(*values)


class Desk:
    """A format and a word, and a way, rows and guards that are edited."""

    MOST_EDITS = 60

    def __init__(self, form, way, word):
        error = format_error(form)
        if error is not None:
            raise BadFormat(error)
        if not is_way(way):
            raise BadWay(way)
        if not is_word(word):
            raise BadWord(word)
        self.form = form
        self.word = word
        self.way = way
        self.rows = ()
        self.guards = ()
        self.path = (word, (), ())
        self.fault = None
        self._edits = ()
        # What stood at each version: (way, rows, guards, fault).
        self._states = ((way, (), (), None),)
        self._known = {}
        self._busy = False

    def __len__(self):
        return len(self._edits)

    def __str__(self):
        return f"{len(self.rows)} rows, {len(self.guards)} guards, {self.way}, {len(self._edits)} edits"

    def __eq__(self, other):
        if not isinstance(other, Desk) or isinstance(self, SureDesk) != isinstance(other, SureDesk):
            return False
        if isinstance(self, SureDesk) and self.most != other.most:
            return False
        return (self.form == other.form and self.word == other.word and self.way == other.way
                and self.rows == other.rows and self.guards == other.guards)

    def put(self, power, g, s, h):
        """Add the row, in the place of the one with this power if there is one, and return the new version."""
        self._check_open()
        row = (power, g, s, h)
        error = row_error(row)
        if error is not None:
            raise BadRow(error)
        below = [other for other in self.rows if other[0] < power]
        above = [other for other in self.rows if other[0] > power]
        if len(below) + len(above) == MAX_ROWS:
            raise TooManyRows()
        if power in self.guards and not is_sound(row):
            raise NotSound(power)
        return self._stand(("put", power, g, s, h), self.way, (*below, row, *above), self.guards)

    def drop(self, power):
        """Remove the row with this power, and its guard, and return the new version."""
        self._check_open()
        self._row_with(power)
        rows = tuple([row for row in self.rows if row[0] != power])
        guards = tuple([guard for guard in self.guards if guard != power])
        return self._stand(("drop", power), self.way, rows, guards)

    def guard(self, power):
        """Guard the row with this power, and return the new version."""
        self._check_open()
        if not is_sound(self._row_with(power)):
            raise NotSound(power)
        if power in self.guards:
            raise Guarded(power)
        return self._stand(("guard", power), self.way, self.rows, tuple(sorted([*self.guards, power])))

    def unguard(self, power):
        """Remove the guard of the row with this power, and return the new version."""
        self._check_open()
        self._row_with(power)
        if power not in self.guards:
            raise NoGuard(power)
        guards = tuple([guard for guard in self.guards if guard != power])
        return self._stand(("unguard", power), self.way, self.rows, guards)

    def turn(self, way):
        """Exchange the way, and return the new version."""
        self._check_open()
        if not is_way(way):
            raise BadWay(way)
        return self._stand(("turn", way), way, self.rows, self.guards)

    def undo(self):
        """Remove the last edit that stands, and return the new version."""
        self._check_free()
        if len(self._edits) == 0:
            raise NothingToUndo()
        self._edits = self._edits[:-1]
        self._states = self._states[:-1]
        self._show()
        return len(self._edits)

    def attempt(self, edits, *, watch=None):
        """Do all of the edits or none, but stop where watch says so, and return how many were done."""
        self._check_free()
        if not isinstance(edits, (list, tuple)) or len(edits) > BATCH:
            raise BadEdits()
        batch = list(edits)
        for index, edit in enumerate(batch):
            if not is_edit(edit):
                raise BadEdit(index)
        done, states = self._edits, self._states
        way, rows, guards, path, fault = self.way, self.rows, self.guards, self.path, self.fault
        many = None
        try:
            many = self._do_all(batch, watch)
        finally:
            # An error of any kind, also one of watch, leaves the desk as it was.
            self._busy = False
            if many is None:
                self._edits, self._states = done, states
                self.way, self.rows, self.guards, self.path, self.fault = way, rows, guards, path, fault
        return many

    def read(self, text):
        """Return (sign, code, is_fast) for the text, is_fast if the path tells the code."""
        sign, *parts = parse_text(text)
        if parts[0] == 10:
            decimal = plain_decimal((parts[1], parts[2]))
            code = read_by(self.form, self.way, self.path, decimal)
            if code is not None:
                return (sign, code, True)
        sign, code = read_text(self.form, self.way, text)
        return (sign, code, False)

    def state(self, *, version=None):
        """Return (way, rows, guards) now, or after so many of the edits that stand."""
        return self._state_at(version)[:3]

    def walk(self, *, version=None):
        """Yield (power, is_guarded, wrong) for each row, wrong is the least number that it reads wrongly, or None."""
        way, rows, guards, _ = self._state_at(version)
        for row in rows:
            yield (row[0], row[0] in guards, self._wrong_with(way, row))

    def edits(self):
        """Return the edits that stand, as tuples of the name and the values."""
        return self._edits

    def _check_free(self):
        """Raise Busy while a watch runs."""
        if self._busy:
            raise Busy()

    def _check_open(self):
        """Raise Busy while a watch runs, then TooManyEdits if there is no room for another edit."""
        self._check_free()
        if len(self._edits) >= self.MOST_EDITS:
            raise TooManyEdits()

    def _row_with(self, power):
        """Return the row with this power, or raise NoRow."""
        row = row_with(self.rows, power)
        if row is None:
            raise NoRow(power)
        return row

    def _state_at(self, version):
        """Return what stood at the version, or stands now for None."""
        if version is None:
            return self._states[-1]
        if not is_between(version, 0, len(self._edits)):
            raise NoVersion(version)
        return self._states[version]

    def _wrong_with(self, way, row):
        """Return the least number of the word that is wrong with the row by the way, or None."""
        if (way, row) not in self._known:
            if len(self._known) >= MOST_KNOWN:
                self._known = {}
            self._known[(way, row)] = first_wrong(self.form, way, self.word, row)
        return self._known[(way, row)]

    def _fault_of(self, way, rows, guards):
        """Return the fault that a path of these has by the way, or None."""
        for row in rows:
            if row[0] not in guards:
                number = self._wrong_with(way, row)
                if number is not None:
                    return (row[0], number)
        return None

    def _judge(self, rows, fault):
        """Raise an error if these rows with this fault must not stand; any may on a plain desk."""

    def _stand(self, edit, way, rows, guards):
        """Let the edit stand, behind which there are these way, rows and guards, and return the new version."""
        fault = self._fault_of(way, rows, guards)
        self._judge(rows, fault)
        self._edits = (*self._edits, edit)
        self._states = (*self._states, (way, rows, guards, fault))
        self._show()
        return len(self._edits)

    def _show(self):
        """Bring the attributes up to date."""
        self.way, self.rows, self.guards, self.fault = self._states[-1]
        self.path = (self.word, self.rows, self.guards)

    def _do_all(self, batch, watch):
        """Do the edits until watch says to stop, and return how many were done."""
        for index, edit in enumerate(batch):
            try:
                do_edit(self, edit)
            except (NumberError, NoRow, NoGuard):
                raise Rejected(index) from None
            if watch is not None and self._is_stopped(watch):
                return index + 1
        return len(batch)

    def _is_stopped(self, watch):
        """Return whether watch says to stop."""
        self._busy = True
        answer = bool(watch(self))
        self._busy = False
        return answer


class SureDesk(Desk, Pledge):
    """A desk on which no factor has more bits than promised, and whose path has no fault."""

    def __init__(self, form, way, word, most):
        Desk.__init__(self, form, way, word)
        Pledge.__init__(self, most)

    def _judge(self, rows, fault):
        """Raise TooWide for a factor with too many bits, then Wrong for a fault."""
        for row in rows:
            if row[1].bit_length() > self.most:
                raise TooWide(row[1].bit_length())
        if fault is not None:
            power, number = fault
            raise Wrong(power, number)
