"""A console that works on a desk by lines of text."""

from numbertexts.desks import EDITS, SureDesk, do_edit
from numbertexts.errors import NoGuard, NoRow, NumberError
from numbertexts.texts import number_text

# The commands, with an N for each number and a W for each word that they take.
COMMANDS = {
    "put": "NNNN", "drop": "N", "guard": "N", "unguard": "N", "turn": "W", "undo": "",
    "rows": "", "way": "", "fault": "", "read": "W", "spare": "N",
}
DIGITS = "0123456789"
MOST_DIGITS = 80
UNKNOWN = "unknown command"


def number_of(word):
    """Return the integer that the word tells, or None if it tells none."""
    digits = word.removeprefix("-")
    if digits == "" or len(digits) > MOST_DIGITS or not all([digit in DIGITS for digit in digits]):
        return None
    if digits[0] == "0" and word != "0":
        return None
    return int(word)


def command_of(line):
    """Return the command that the line tells, a tuple of its name and its values, or None."""
    if not isinstance(line, str):
        return None
    name, *words = line.split(" ")
    if name not in COMMANDS or len(words) != len(COMMANDS[name]) or "" in words:
        return None
    values = [number_of(word) if kind == "N" else word for kind, word in zip(COMMANDS[name], words)]
    return None if None in values else (name, *values)


class Console:
    """Works on a desk."""

    def __init__(self, desk):
        self._desk = desk

    def execute(self, line):
        """Do what the line says and return the answer."""
        command = command_of(line)
        if command is None or command[0] == "spare" and not isinstance(self._desk, SureDesk):
            return UNKNOWN
        try:
            return self._answer(command)
        except (NumberError, NoRow, NoGuard) as error:
            return "error " + error.__class__.__name__

    def _answer(self, command):
        """Return the answer to the command."""
        name = command[0]
        if name in EDITS:
            return f"ok {do_edit(self._desk, command)}"
        if name == "undo":
            return f"ok {self._desk.undo()}"
        if name == "rows":
            return self._told_rows()
        if name == "way":
            return self._desk.way
        if name == "fault":
            return self._told_fault()
        if name == "read":
            return self._told_reading(command[1])
        return str(self._desk.spare(command[1]))

    def _told_rows(self):
        """Return the rows as a text."""
        told = []
        for row in self._desk.rows:
            text = " ".join([str(part) for part in row])
            told.append(f"{text} guarded" if row[0] in self._desk.guards else text)
        return ", ".join(told) if len(told) > 0 else "none"

    def _told_fault(self):
        """Return the fault as a text."""
        if self._desk.fault is None:
            return "none"
        return " ".join([str(part) for part in self._desk.fault])

    def _told_reading(self, text):
        """Return what the desk reads, as a text."""
        sign, code, is_fast = self._desk.read(text)
        told = number_text(self._desk.form, self._desk.way, sign, code)
        return told + (" fast" if is_fast else " slow")
