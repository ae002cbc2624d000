import copy
import itertools
import random
import unittest

from numbertexts.bounds import BATCH, MAX_EDITS, MAX_ROWS, MAX_WORD
from numbertexts.desks import Desk, SureDesk
from numbertexts.errors import (
    BadBits, BadEdit, BadEdits, BadFormat, BadNumber, BadRow, BadText, BadWay, BadWord, Busy, Guarded, NoGuard, NoRow,
    NothingToUndo, NotSound, NoVersion, NumberError, Rejected, TooManyEdits, TooManyRows, TooWide, Wrong)
from numbertexts.formats import format_error, told_format
from numbertexts.paths import path_error, path_fault, read_by
from numbertexts.promises import Pledge
from numbertexts.reading import is_way
from numbertexts.rows import cut_row, is_sound, row_error
from numbertexts.texts import read_text
from numbertexts.wrongs import first_wrong
from slow_ways import WAYS, any_values

T = (3, -2, 2)
B64 = told_format("binary64")
FINE, COARSE = (-1, 3, -5, 1), (-1, 1, -4, 3)


def queries(desk):
    """All attributes and queries of a desk that hang on the present version."""
    return (desk.form, desk.word, desk.way, desk.rows, desk.guards, desk.path, desk.fault, len(desk), str(desk),
            desk.state(), list(desk.walk()), desk.edits(), [desk.state(version=k) for k in range(len(desk) + 1)])


def do(desk, edit):
    name, *values = edit
    return getattr(desk, name)(*values)


class Case(unittest.TestCase):
    def raised(self, error, function, *arguments, **more):
        with self.assertRaises(error) as caught:
            function(*arguments, **more)
        self.assertIs(type(caught.exception), error)
        return caught.exception

    def refused(self, desk, error, function, *arguments, **more):
        """The error of a call, which leaves the desk as it was."""
        kept = queries(desk)
        caught = self.raised(error, function, *arguments, **more)
        self.assertEqual(queries(desk), kept)
        return caught


class NewDesks(Case):
    def test_what_is_no_format_no_way_no_word(self):
        for value in any_values():
            if value != T:
                self.assertEqual(self.raised(BadFormat, Desk, value, None, None).error, format_error(value))
            if not is_way(value):
                self.assertIs(self.raised(BadWay, Desk, T, value, 0).value, value)
            if type(value) is not int or not 1 <= value <= MAX_WORD:
                self.assertIs(self.raised(BadWord, Desk, T, "odd", value).value, value)
        self.assertEqual(self.raised(BadWord, Desk, T, "odd", MAX_WORD + 1).value, MAX_WORD + 1)

    def test_attributes_of_a_new_desk(self):
        for word in (1, MAX_WORD):
            desk = Desk(B64, "out", word)
            self.assertEqual((desk.form, desk.word, desk.way, desk.rows, desk.guards, desk.path, desk.fault),
                             (B64, word, "out", (), (), (word, (), ()), None))
            self.assertEqual((len(desk), str(desk), desk.edits()), (0, "0 rows, 0 guards, out, 0 edits", ()))
        self.assertEqual([Desk.MOST_EDITS, SureDesk.MOST_EDITS, Desk(T, "odd", 3).MOST_EDITS], [MAX_EDITS] * 3)


class Edits(Case):
    def setUp(self):
        self.desk = Desk(T, "even", 3)

    def test_put(self):
        self.assertEqual([self.desk.put(*row) for row in ((0, 1, 0, 0), (2, 25, 2, 0), (-1, 3, -5, 1))], [1, 2, 3])
        self.assertEqual(self.desk.rows, ((-1, 3, -5, 1), (0, 1, 0, 0), (2, 25, 2, 0)))
        self.assertEqual([self.desk.guard(0), self.desk.put(0, 2, -1, 1)], [4, 5])
        self.assertEqual((self.desk.rows[1], self.desk.guards), ((0, 2, -1, 1), (0,)))
        self.assertEqual(self.desk.put(0, 2, -1, 1), 6)

    def test_put_what_is_no_row(self):
        for value in any_values():
            for place in range(4):
                row = [0, 1, 0, 0]
                row[place] = value
                error = row_error(tuple(row))
                if error is not None:
                    self.assertEqual(self.refused(self.desk, BadRow, self.desk.put, *row).error, error)
        self.assertEqual(self.refused(self.desk, BadRow, self.desk.put, 0, True, 0, 4).error, "factor")

    def test_too_many_rows(self):
        desk = Desk(T, "even", 1)
        for exponent in range(MAX_ROWS):
            desk.put(exponent, 1, 0, 0)
        self.refused(desk, TooManyRows, desk.put, -1, 1, 0, 0)
        self.refused(desk, TooManyRows, desk.put, MAX_ROWS, 1, 0, 0)
        self.assertEqual(self.refused(desk, BadRow, desk.put, -1, 0, 0, 0).error, "factor")
        self.assertEqual(desk.put(7, 5, 1, 0), MAX_ROWS + 1)
        desk.drop(0)
        self.assertEqual(desk.put(-1, 3, -5, 1), MAX_ROWS + 3)

    def test_put_of_a_guarded_power(self):
        self.desk.put(*FINE)
        self.desk.guard(-1)
        self.assertEqual(self.refused(self.desk, NotSound, self.desk.put, -1, 1, 0, 0).power, -1)
        self.desk.put(0, 3, 0, 0)
        self.desk.unguard(-1)
        self.assertEqual(self.desk.put(-1, 1, 0, 0), 5)

    def test_guard(self):
        for row in ((0, 1, 0, 0), FINE, (1, 7, 0, 0)):
            self.desk.put(*row)
        self.assertEqual([self.desk.guard(0), self.desk.guard(-1), self.desk.guards], [4, 5, (-1, 0)])
        self.assertEqual(self.refused(self.desk, NotSound, self.desk.guard, 1).power, 1)
        self.assertEqual(self.refused(self.desk, Guarded, self.desk.guard, -1).power, -1)

    def test_unguard(self):
        self.desk.attempt([("put", 0, 1, 0, 0), ("put", *FINE), ("guard", 0), ("guard", -1)])
        self.assertEqual([self.desk.unguard(0), self.desk.guards], [5, (-1,)])
        self.assertEqual(self.refused(self.desk, NoGuard, self.desk.unguard, 0).power, 0)
        self.assertEqual([self.desk.unguard(-1), self.desk.guards, self.desk.rows], [6, (), (FINE, (0, 1, 0, 0))])

    def test_drop(self):
        self.desk.attempt([("put", 0, 1, 0, 0), ("put", *FINE), ("guard", 0), ("guard", -1)])
        self.assertEqual([self.desk.drop(-1), self.desk.rows, self.desk.guards], [5, ((0, 1, 0, 0),), (0,)])
        self.assertEqual([self.desk.put(*FINE), self.desk.guards], [6, (0,)])
        self.assertEqual([self.desk.drop(0), self.desk.drop(-1), self.desk.path], [7, 8, (3, (), ())])

    def test_without_the_row(self):
        self.desk.attempt([("put", 0, 1, 0, 0), ("put", 1, 5, 1, 0), ("guard", 1)])
        for value in (2, -1, *any_values()):
            if type(value) is not int or value not in (0, 1):
                for function in (self.desk.drop, self.desk.guard, self.desk.unguard):
                    self.assertIs(self.refused(self.desk, NoRow, function, value).value, value)

    def test_turn(self):
        for k, way in enumerate((*WAYS, "odd", "even")):
            self.assertEqual([self.desk.turn(way), self.desk.way], [k + 1, way])
        for value in any_values():
            if not is_way(value):
                self.assertIs(self.refused(self.desk, BadWay, self.desk.turn, value).value, value)

    def test_too_many_edits(self):
        for _ in range(MAX_EDITS):
            self.desk.turn("even")
        for edit in (("turn", "odd"), ("turn", None), ("put", 0, 1, 0, 0), ("put", None, 0, 0, 0), ("drop", 7), ("guard", 7),
                     ("unguard", True)):
            self.refused(self.desk, TooManyEdits, do, self.desk, edit)
        self.assertEqual(self.refused(self.desk, Rejected, self.desk.attempt, [("turn", "odd")]).index, 0)
        self.assertEqual([self.desk.undo(), self.desk.turn("odd")], [MAX_EDITS - 1, MAX_EDITS])

    def test_fault(self):
        self.desk.put(*COARSE)
        self.assertEqual(self.desk.fault, (-1, 4))
        self.desk.put(-2, 1, 0, 0)
        self.assertEqual(self.desk.fault, (-2, 1))
        self.desk.drop(-2)
        self.desk.guard(-1)
        self.assertIs(self.desk.fault, None)
        self.desk.unguard(-1)
        self.assertEqual(self.desk.fault, (-1, 4))
        self.desk.put(*FINE)
        self.assertIs(self.desk.fault, None)
        self.desk.turn("zero")
        self.assertEqual(self.desk.fault, path_fault(T, "zero", (3, (FINE,), ())))
        self.assertIsNot(self.desk.fault, None)


def some_edit(picker):
    """An edit of any kind, most of them possible on a desk with a few rows."""
    exponent = picker.choice((-2, -1, -1, 0, 1, 2, True))
    kind = picker.randrange(10)
    if kind < 4:
        row = cut_row(int(exponent), picker.randint(1, 8))
        return ("put", *row) if kind < 3 else ("put", row[0], row[1] + picker.randint(-1, 3), row[2], picker.randint(0, 3))
    if kind == 4:
        return ("drop", exponent)
    if kind < 7:
        return ("guard", exponent)
    if kind < 9:
        return ("unguard", exponent)
    return ("turn", picker.choice((*WAYS, "up")))


class Model:
    """What a desk is by the words of the document, with nothing but its way, rows and guards."""

    def __init__(self, way):
        self.way, self.rows, self.guards = way, {}, set()

    def edit(self, edit):
        name, *values = edit
        if name == "put":
            self.rows[values[0]] = tuple(values)
        elif name == "drop":
            del self.rows[values[0]]
            self.guards.discard(values[0])
        elif name == "guard":
            self.guards.add(values[0])
        elif name == "unguard":
            self.guards.remove(values[0])
        else:
            self.way = values[0]

    def state(self):
        return self.way, tuple(self.rows[exponent] for exponent in sorted(self.rows)), tuple(sorted(self.guards))


class ManyEdits(Case):
    def check(self, desk, standing):
        """The desk is as the words say behind the edits that stand, and as a new one on which they were done."""
        other = Desk(desk.form, "even", desk.word)
        model = Model("even")
        states = [model.state()]
        for edit in standing:
            do(other, edit)
            model.edit(edit)
            states.append(model.state())
        self.assertEqual(queries(desk), queries(other))
        self.assertTrue(desk == other)
        self.assertEqual([desk.state(version=version) for version in range(len(desk) + 1)], states)
        self.assertEqual((desk.way, desk.rows, desk.guards), states[-1])
        self.assertEqual(desk.path, (desk.word, desk.rows, desk.guards))
        self.assertIs(path_error(desk.path), None)
        self.assertEqual(desk.fault, path_fault(desk.form, desk.way, desk.path))
        self.assertEqual(desk.edits(), tuple(standing))

    def test_any_edits_and_undos(self):
        for seed in range(25):
            picker = random.Random(seed)
            desk, standing = Desk(T, "even", 4), []
            for turn in range(90):
                if picker.random() < 0.25:
                    if standing:
                        standing.pop()
                        self.assertEqual(desk.undo(), len(standing))
                    else:
                        self.refused(desk, NothingToUndo, desk.undo)
                else:
                    edit = some_edit(picker)
                    try:
                        version = do(desk, edit)
                    except (NumberError, LookupError):
                        pass
                    else:
                        standing.append(edit)
                        self.assertEqual(version, len(standing))
                if turn % 15 == 14:
                    self.check(desk, standing)

    def test_undo_of_each_edit(self):
        first = [("put", 0, 1, 0, 0), ("put", *COARSE), ("guard", 0)]
        for edit in (("put", 1, 5, 1, 0), ("put", *FINE), ("drop", 0), ("drop", -1), ("guard", -1), ("unguard", 0), ("turn", "odd")):
            desk = Desk(T, "even", 3)
            desk.attempt(first)
            kept = queries(desk)
            do(desk, edit)
            self.assertNotEqual(queries(desk), kept)
            self.assertEqual(desk.undo(), 3)
            self.assertEqual(queries(desk), kept)

    def test_undo_of_all(self):
        desk = Desk(T, "even", 3)
        desk.attempt([("put", *COARSE), ("turn", "out"), ("guard", -1)])
        self.assertEqual([desk.undo(), desk.undo(), desk.undo()], [2, 1, 0])
        self.assertEqual(queries(desk), queries(Desk(T, "even", 3)))
        self.refused(desk, NothingToUndo, desk.undo)


class Attempts(Case):
    def setUp(self):
        self.desk = Desk(T, "even", 3)
        self.desk.put(0, 1, 0, 0)

    def test_all_edits(self):
        batch = [("put", *FINE), ("guard", -1), ("turn", "away"), ("unguard", -1), ("drop", 0)]
        self.assertEqual(self.desk.attempt(batch), 5)
        self.assertEqual(self.desk.edits(), (("put", 0, 1, 0, 0), *batch))
        self.assertEqual([self.desk.undo(), self.desk.rows], [5, (FINE, (0, 1, 0, 0))])
        self.assertEqual(self.desk.attempt(tuple(batch[4:])), 1)

    def test_an_empty_batch(self):
        def watch(desk):
            raise AssertionError
        self.assertEqual([self.desk.attempt([], watch=watch), self.desk.attempt((), watch=watch), len(self.desk)], [0, 0, 1])

    def test_what_is_no_batch(self):
        for value in (*any_values(), "turn", {"turn": "odd"}, [("turn", "odd")] * (BATCH + 1), ("x",) * (BATCH + 1)):
            if not isinstance(value, (list, tuple)) or len(value) > BATCH:
                self.refused(self.desk, BadEdits, self.desk.attempt, value)
        self.assertEqual(self.desk.attempt([("turn", "odd")] * BATCH), BATCH)

    def test_what_is_no_edit(self):
        good = ("turn", "odd")
        for value in (*any_values(), ("turn",), ("turn", "odd", 1), ["turn", "odd"], ("put", 1, 2, 3), ("put", 1, 2, 3, 4, 5),
                      ("drop",), ("guard", 1, 2), ("undo",), ("attempt", []), (("turn",), "odd"), (None, 1), (["turn"], 1),
                      "turn", ("Turn", "odd")):
            self.assertEqual(self.refused(self.desk, BadEdit, self.desk.attempt, [good, value, None]).index, 1, value)

    def test_bad_edits_are_told_before_any_edit_is_done(self):
        calls = []
        for batch in ([("turn", "odd"), ("turn",)], [("turn", "up"), 5]):
            self.assertEqual(self.refused(self.desk, BadEdit, self.desk.attempt, batch, watch=calls.append).index, 1)
        self.assertEqual(calls, [])

    def test_an_edit_that_raises(self):
        good = [("put", *FINE), ("guard", -1)]
        for edit in (("put", 0, 0, 0, 0), ("put", -1, 1, 0, 0), ("drop", 9), ("drop", [None]), ("guard", -1), ("guard", None),
                     ("unguard", 0), ("unguard", True), ("turn", "up"), ("turn", ["odd"]), ("put", None, (), [], {})):
            self.assertEqual(self.refused(self.desk, Rejected, self.desk.attempt, [*good, edit, ("drop", 0)]).index, 2, edit)

    def test_too_many_edits_in_a_batch(self):
        for _ in range(MAX_EDITS - 3):
            self.desk.turn("even")
        self.assertEqual(self.refused(self.desk, Rejected, self.desk.attempt, [("turn", "odd")] * 3).index, 2)
        self.assertEqual([self.desk.attempt([("turn", "odd")] * 2), len(self.desk)], [2, MAX_EDITS])

    def test_watch_sees_each_edit(self):
        seen = []

        def watch(desk):
            seen.append((desk is self.desk, len(desk), desk.way, desk.rows, desk.fault, desk.path, desk.state(version=1)[0],
                         desk.read("0.5"), str(desk), list(desk.walk()), desk.edits()[-1]))

        self.assertEqual(self.desk.attempt([("put", *COARSE), ("turn", "out")], watch=watch), 2)
        other, wanted = Desk(T, "even", 3), []
        other.put(0, 1, 0, 0)
        for edit in (("put", *COARSE), ("turn", "out")):
            do(other, edit)
            wanted.append((True, len(other), other.way, other.rows, other.fault, other.path, "even", other.read("0.5"),
                           str(other), list(other.walk()), edit))
        self.assertEqual(seen, wanted)

    def test_watch_stops(self):
        batch = [("turn", way) for way in WAYS]
        for answer in (True, 1, "yes", [0], self.desk):
            done = self.desk.attempt(batch, watch=lambda desk: answer if desk.way == "zero" else 0)
            self.assertEqual((done, self.desk.way), (3, "zero"))
        for answer in (None, False, 0, "", [], {}):
            self.assertEqual(Desk(T, "even", 3).attempt(batch, watch=lambda desk: answer), 5)
        self.assertEqual(self.desk.attempt(batch[:1], watch=lambda desk: True), 1)

    def test_watch_raises(self):
        class Stopped(BaseException):
            pass

        class Unclear:
            def __bool__(self):
                raise Stopped(6)

        def watch(desk):
            if len(desk) == 3:
                raise error
            return Unclear() if error is None and len(desk) == 2 else False

        for error in (Stopped(5), ValueError("x"), NoRow(5), Rejected(7), KeyboardInterrupt(), StopIteration(), None):
            kept = queries(self.desk)
            batch = [("put", *COARSE), ("turn", "out"), ("turn", "odd")]
            with self.assertRaises(BaseException) as caught:
                self.desk.attempt(batch, watch=watch)
            self.assertTrue(caught.exception is error or error is None and caught.exception.args == (6,))
            self.assertEqual(queries(self.desk), kept)
            # The desk is not busy any more.
            self.assertEqual([self.desk.turn("even"), self.desk.undo()], [2, 1])

    def test_busy(self):
        calls = (("put", None, 0, 0, 0), ("drop", 7), ("guard", 7), ("unguard", 7), ("turn", "up"), ("turn", "odd"), ("undo",),
                 ("attempt", []), ("attempt", None), ("attempt", [5]))
        seen = []

        def watch(desk):
            for name, *values in calls:
                kept = queries(desk)
                self.assertIs(type(self.raised(Busy, getattr(desk, name), *values)), Busy)
                self.assertEqual(queries(desk), kept)
                seen.append(name)

        self.assertEqual(self.desk.attempt([("turn", "odd")], watch=watch), 1)
        self.assertEqual(len(seen), len(calls))
        self.assertEqual(self.desk.undo(), 1)

    def test_busy_comes_ahead_of_too_many_edits_and_of_nothing_to_undo(self):
        desk = Desk(T, "even", 3)
        for _ in range(MAX_EDITS - 1):
            desk.turn("even")
        desk.attempt([("turn", "odd")], watch=lambda desk: self.raised(Busy, desk.turn, "odd") and False)
        self.assertEqual(len(desk), MAX_EDITS)

    def test_a_watch_that_lets_busy_pass(self):
        self.refused(self.desk, Busy, self.desk.attempt, [("turn", "odd")], watch=lambda desk: desk.undo())

    def test_other_desks_are_free_while_watch_runs(self):
        other = Desk(T, "even", 3)
        self.assertEqual(self.desk.attempt([("turn", "odd")], watch=lambda desk: other.turn("out") > 1), 1)
        self.assertEqual(other.way, "out")

    def test_edits_that_are_changed_while_attempt_runs(self):
        batch = [("turn", "odd"), ("turn", "out")]

        def watch(desk):
            batch.clear()
            batch.append(5)

        self.assertEqual([self.desk.attempt(batch, watch=watch), self.desk.way], [2, "out"])

    def test_watch_is_passed_by_keyword(self):
        with self.assertRaises(TypeError):
            self.desk.attempt([], None)

    def test_arguments_are_not_changed(self):
        batch = [("put", *FINE), ("turn", ["odd"])]
        kept = copy.deepcopy(batch)
        self.raised(Rejected, self.desk.attempt, batch)
        self.assertEqual(batch, kept)


class Queries(Case):
    def setUp(self):
        self.desk = Desk(T, "even", 4)
        self.desk.attempt([("put", -1, 25, -8, 1), ("put", 0, 1, 0, 0), ("guard", -1), ("turn", "away"), ("put", -2, 1, 0, 0)])

    def test_read(self):
        for text in ("1.3", "-1.4", "+5", "0", "0.0", "10", "100e-1", "inf", "-inf", "0x9p-2", "-0x0p0", "1e9", "1600e-2", ".7"):
            sign, code = read_text(T, "away", text)
            found = self.desk.read(text)
            self.assertEqual(found[0], sign)
            self.assertIs(type(found[2]), bool)
            if not found[2]:
                self.assertEqual(found, (sign, code, False))
        # 1.4 is slow by the guarded row, 1600e-2 is 16, which has no row but that of the power 0 for its d.
        told = [self.desk.read(text)[2] for text in ("1.3", "1.4", "15", "16", "100e-1", "0", "0.0", "inf", "0x1p0", "0.02")]
        self.assertEqual(told, [True, False, True, False, False, True, True, False, False, True])

    def test_read_by_the_path_also_tells_wrong_codes(self):
        self.assertEqual(self.desk.read("0.02"), (0, read_by(T, "away", self.desk.path, (2, -2)), True))
        self.assertNotEqual(self.desk.read("0.02")[1], read_text(T, "away", "0.02")[1])
        self.assertEqual(self.desk.read("-0.02"), (1, *self.desk.read("0.02")[1:]))

    def test_read_what_is_no_text(self):
        for value in ("", "1.2.3", "up", "1e", "0x1", " 1", "1e1201", *any_values()):
            if not isinstance(value, str):
                self.assertIs(self.refused(self.desk, BadText, self.desk.read, value).place, None)
            else:
                place = self.raised(BadText, read_text, T, "even", value).place
                self.assertEqual(self.refused(self.desk, BadText, self.desk.read, value).place, place)

    def test_state_of_each_version(self):
        rows = ((-1, 25, -8, 1), (0, 1, 0, 0))
        states = [("even", (), ()), ("even", rows[:1], ()), ("even", rows, ()), ("even", rows, (-1,)), ("away", rows, (-1,)),
                  ("away", ((-2, 1, 0, 0), *rows), (-1,))]
        self.assertEqual([self.desk.state(version=version) for version in range(6)], states)
        self.assertEqual([self.desk.state(), self.desk.state(version=None)], [states[5], states[5]])
        self.desk.undo()
        self.assertEqual(self.desk.state(), states[4])
        self.assertEqual(self.refused(self.desk, NoVersion, self.desk.state, version=5).value, 5)

    def test_walk_of_each_version(self):
        for version in (None, *range(6)):
            way, rows, guards = self.desk.state(version=version)
            wanted = [(row[0], row[0] in guards, first_wrong(T, way, 4, row)) for row in rows]
            self.assertEqual(list(self.desk.walk(version=version)), wanted)
        self.assertEqual(list(self.desk.walk()), [(-2, False, 1), (-1, True, first_wrong(T, "away", 4, (-1, 25, -8, 1))), (0, False, None)])

    def test_no_version(self):
        for value in (6, -1, *any_values()):
            if value is not None and (type(value) is not int or not 0 <= value <= 5):
                self.assertIs(self.refused(self.desk, NoVersion, self.desk.state, version=value).value, value)
                self.assertIs(self.raised(NoVersion, lambda: list(self.desk.walk(version=value))).value, value)
        for function in (self.desk.state, lambda version: list(self.desk.walk(version))):
            with self.assertRaises(TypeError):
                function(3)

    def test_walk_with_later_edits(self):
        walk = self.desk.walk()
        first = next(walk)
        self.desk.attempt([("drop", -1), ("drop", 0), ("turn", "odd"), ("drop", -2)])
        self.assertEqual([first, *walk], list(self.desk.walk(version=5)))
        walk, other = self.desk.walk(version=3), self.desk.walk(version=2)
        told = [item for pair in zip(walk, other) for item in pair]
        self.assertEqual(told[::2], list(self.desk.walk(version=3)))
        self.assertEqual(told[1::2], list(self.desk.walk(version=2)))

    def test_walk_does_not_work_out_all_rows_ahead(self):
        desk = Desk(B64, "even", 128)
        for exponent in range(-390, -352):
            desk.put(*cut_row(exponent, 256))
        self.assertEqual(next(desk.walk()), (-390, False, first_wrong(B64, "even", 128, desk.rows[0])))

    def test_edits(self):
        self.assertEqual(self.desk.edits(), (("put", -1, 25, -8, 1), ("put", 0, 1, 0, 0), ("guard", -1), ("turn", "away"), ("put", -2, 1, 0, 0)))
        self.assertEqual(str(self.desk), "3 rows, 1 guards, away, 5 edits")
        self.assertEqual(len(self.desk), 5)

    def test_equality(self):
        other = Desk(T, "away", 4)
        self.assertFalse(self.desk == other)
        for row in self.desk.rows:
            other.put(*row)
        self.assertTrue(self.desk != other)
        other.guard(-1)
        self.assertTrue(self.desk == other and not self.desk != other)
        other.turn("out")
        self.assertFalse(self.desk == other)
        for unequal in (Desk(T, "away", 3), Desk((3, -2, 3), "away", 3)):
            self.assertFalse(Desk(T, "away", 4) == unequal)
        for value in (*any_values(), Pledge(3), self.desk.path, self.desk.state()):
            self.assertFalse(self.desk == value)
            self.assertTrue(self.desk != value)

    def test_great_formats(self):
        desk = Desk(B64, "even", 64)
        for exponent in range(-27, 6):
            desk.put(*cut_row(exponent, 110))
        self.assertEqual(desk.fault, path_fault(B64, "even", desk.path))
        for exponent, _, wrong in desk.walk():
            if wrong is not None:
                desk.guard(exponent)
        self.assertIs(desk.fault, None)
        self.assertTrue(0 < len(desk.guards) < len(desk.rows))
        self.assertEqual(desk.read("0.1"), (*read_text(B64, "even", "0.1"), True))


class SureDesks(Case):
    def setUp(self):
        self.desk = SureDesk(T, "even", 3, 2)

    def test_what_a_sure_desk_is(self):
        self.assertTrue(isinstance(self.desk, Desk) and isinstance(self.desk, Pledge))
        self.assertTrue(issubclass(SureDesk, Desk) and issubclass(SureDesk, Pledge))
        self.assertFalse(isinstance(Desk(T, "even", 3), Pledge))
        self.assertEqual((self.desk.most, self.desk.path, self.desk.fault, str(self.desk)),
                         (2, (3, (), ()), None, "0 rows, 0 guards, even, 0 edits"))

    def test_new_ones(self):
        self.assertEqual(self.raised(BadFormat, SureDesk, (0, 0, 0), "up", 0, 0).error, "precision")
        self.assertEqual(self.raised(BadWay, SureDesk, T, "up", 0, 0).value, "up")
        self.assertEqual(self.raised(BadWord, SureDesk, T, "odd", 0, 0).value, 0)
        for value in (0, 257, -1, *any_values()):
            if type(value) is not int or not 1 <= value <= 256:
                self.assertIs(self.raised(BadBits, SureDesk, T, "odd", 3, value).value, value)

    def test_too_wide(self):
        self.assertEqual(self.refused(self.desk, TooWide, self.desk.put, 0, 4, -2, 0).bits, 3)
        # Ahead of the fault.
        self.assertEqual(self.refused(self.desk, TooWide, self.desk.put, 0, 2 ** 200, 0, 0).bits, 201)
        self.assertEqual(self.desk.put(0, 2, -1, 0), 1)

    def test_wrong(self):
        caught = self.refused(self.desk, Wrong, self.desk.put, *COARSE)
        self.assertEqual((caught.power, caught.number), (-1, 4))
        self.desk.put(*FINE)
        self.desk.guard(-1)
        self.desk.put(*COARSE)
        caught = self.refused(self.desk, Wrong, self.desk.unguard, -1)
        self.assertEqual((caught.power, caught.number), (-1, 4))
        self.assertEqual([self.desk.drop(-1), self.desk.fault], [4, None])

    def test_wrong_behind_a_turn(self):
        self.desk.put(*FINE)
        fault = path_fault(T, "zero", self.desk.path)
        caught = self.refused(self.desk, Wrong, self.desk.turn, "zero")
        self.assertEqual((caught.power, caught.number), fault)
        self.desk.guard(-1)
        self.assertEqual(self.desk.turn("zero"), 3)

    def test_behind_all_other_errors(self):
        desk = self.desk
        self.assertEqual(self.refused(desk, BadRow, desk.put, 0, 8, 0, 4).error, "height")
        desk.put(*FINE)
        desk.guard(-1)
        self.assertFalse(is_sound((-1, 8, 0, 0)))
        self.assertEqual(self.refused(desk, NotSound, desk.put, -1, 8, 0, 0).power, -1)
        self.assertEqual(self.refused(desk, NoRow, desk.unguard, 5).value, 5)
        self.assertEqual(self.refused(desk, BadWay, desk.turn, "up").value, "up")
        while len(desk) < MAX_EDITS:
            desk.turn("even")
        self.refused(desk, TooManyEdits, desk.put, 0, 8, 0, 0)
        desk.undo()
        desk.attempt([("turn", "even")], watch=lambda desk: self.raised(Busy, desk.put, 0, 8, 0, 0) and False)

    def test_too_many_rows_come_first(self):
        desk = SureDesk(T, "zero", 1, 1)
        for exponent in range(MAX_ROWS):
            desk.put(exponent + 10, 1, 9, 0)
        self.refused(desk, TooManyRows, desk.put, 0, 8, 0, 0)
        self.assertEqual(self.refused(desk, TooWide, desk.put, 10, 8, 0, 0).bits, 4)

    def test_in_attempt(self):
        for edit in (("put", 0, 4, -2, 0), ("put", *COARSE), ("turn", "zero")):
            self.assertEqual(self.refused(self.desk, Rejected, self.desk.attempt, [("put", *FINE), edit]).index, 1)
        self.assertEqual(self.desk.attempt([("put", *FINE), ("guard", -1), ("put", *COARSE)]), 3)

    def test_undo_never_raises_them(self):
        for seed in range(12):
            picker = random.Random(seed)
            desk = SureDesk(T, "even", 3, 5)
            for _ in range(120):
                try:
                    do(desk, some_edit(picker))
                except (NumberError, LookupError):
                    pass
                self.assertIs(desk.fault, None)
                self.assertTrue(all(row[1] < 32 for row in desk.rows))
                if len(desk) == 30:
                    versions = [desk.state(version=version) for version in range(31)]
                    for version in range(29, 9, -1):
                        self.assertEqual(desk.undo(), version)
                        self.assertEqual(desk.state(), versions[version])

    def test_spare(self):
        self.assertEqual([self.desk.spare(1), self.desk.spare(2), self.desk.spare(3)], [1, 0, 0])
        self.assertEqual(self.raised(TooWide, self.desk.spare, 4).bits, 3)
        self.assertIs(self.raised(BadNumber, self.desk.spare, True).value, True)
        seen = []
        self.desk.attempt([("put", *FINE)], watch=lambda desk: seen.append(desk.spare(desk.rows[0][1])))
        self.assertEqual(seen, [0])

    def test_equality(self):
        self.assertTrue(self.desk == SureDesk(T, "even", 3, 2))
        self.assertFalse(self.desk != SureDesk(T, "even", 3, 2))
        for other in (SureDesk(T, "even", 3, 3), Desk(T, "even", 3), Pledge(2), SureDesk(T, "odd", 3, 2)):
            self.assertFalse(self.desk == other)
            self.assertFalse(other == self.desk)
            self.assertTrue(self.desk != other)
        other = SureDesk(T, "even", 3, 2)
        other.put(*FINE)
        self.assertFalse(self.desk == other)
        self.desk.put(0, 1, 0, 0)
        self.desk.drop(0)
        self.desk.put(*FINE)
        self.assertTrue(self.desk == other)


class Counts(Case):
    def test_each_edit_is_counted_also_one_that_changes_nothing(self):
        desk = Desk(T, "even", 3)
        edits = [("put", *FINE), ("put", *FINE), ("turn", "even"), ("turn", "even")]
        self.assertEqual([do(desk, edit) for edit in edits], [1, 2, 3, 4])
        self.assertEqual(desk.edits(), tuple(edits))
        self.assertEqual(list(itertools.islice(desk.walk(), 5)), [(-1, False, None)])


if __name__ == "__main__":
    unittest.main()
