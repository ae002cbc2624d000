import unittest

from numbertexts.bounds import MAX_EDITS, MAX_ROWS
from numbertexts.consoles import Console
from numbertexts.desks import Desk, SureDesk
from numbertexts.formats import count_of, told_format
from numbertexts.texts import number_text
from slow_ways import WAYS, any_values

T = (3, -2, 2)
B64 = told_format("binary64")
UNKNOWN = "unknown command"
FINE = "put -1 3 -5 1"


class Case(unittest.TestCase):
    def setUp(self):
        self.desk = Desk(T, "even", 3)
        self.console = Console(self.desk)

    def answers(self, *lines):
        return [self.console.execute(line) for line in lines]

    def check_unknown(self, *lines):
        kept = (self.desk.state(), self.desk.edits())
        for line in lines:
            self.assertEqual(self.console.execute(line), UNKNOWN, line)
        self.assertEqual((self.desk.state(), self.desk.edits()), kept)


class Commands(Case):
    def test_edits_and_undo(self):
        self.assertEqual(self.answers(FINE, "guard -1", "unguard -1", "turn away", "drop -1", "undo", "undo"),
                         ["ok 1", "ok 2", "ok 3", "ok 4", "ok 5", "ok 4", "ok 3"])
        self.assertEqual(self.desk.edits(), (("put", -1, 3, -5, 1), ("guard", -1), ("unguard", -1)))

    def test_it_works_on_this_very_desk(self):
        self.desk.put(0, 1, 0, 0)
        self.assertEqual(self.answers("rows", "put 0 1 0 0"), ["0 1 0 0", "ok 2"])
        self.assertEqual(len(self.desk), 2)
        self.assertEqual(Console(self.desk).execute("undo"), "ok 1")

    def test_rows(self):
        self.assertEqual(self.answers("rows", FINE, "rows", "put 2 25 2 0", "put -3 1 0 0", "rows", "guard 2", "guard -1", "rows"),
                         ["none", "ok 1", "-1 3 -5 1", "ok 2", "ok 3", "-3 1 0 0, -1 3 -5 1, 2 25 2 0", "ok 4", "ok 5",
                          "-3 1 0 0, -1 3 -5 1 guarded, 2 25 2 0 guarded"])

    def test_way(self):
        for k, way in enumerate(WAYS):
            self.assertEqual(self.answers(f"turn {way}", "way"), [f"ok {k + 1}", way])

    def test_fault(self):
        self.assertEqual(self.answers("fault", "put -1 1 -4 3", "fault", "put -2 1 0 0", "fault", "drop -2", "guard -1", "fault"),
                         ["none", "ok 1", "-1 4", "ok 2", "-2 1", "ok 3", "ok 4", "none"])

    def test_great_numbers(self):
        factor = 10 ** 76 + 7
        self.assertEqual(self.answers(f"put 76 {factor} 0 1", "rows"), ["ok 1", f"76 {factor} 0 1"])


class Reading(Case):
    def test_zero_beyond_negative(self):
        self.assertEqual(self.answers("read 0", "read -0.0", "read 1e9", "read -1e9", "read inf", "read -inf", "read 30"),
                         ["0 slow", "-0 slow", "inf slow", "-inf slow", "inf slow", "-inf slow", "inf slow"])
        self.answers("turn zero", "put 0 1 0 0")
        self.assertEqual(self.answers("read 0", "read -00e7", "read 1e9", "read inf", "read 7", "read +7"),
                         ["0 fast", "-0 fast", "30 slow", "inf slow", "7 fast", "7 fast"])

    def test_by_the_path_and_slow(self):
        self.answers(FINE, "put 0 1 0 0")
        self.assertEqual(self.answers("read 0.5", "read -0.5", "read 0.8", "read 5e0", "read 7", "read 8", "read 0x9p-2", "read 70e-1"),
                         ["0.5 fast", "-0.5 fast", "0.8 slow", "5 fast", "7 fast", "8 slow", "2 slow", "7 fast"])

    def test_the_style_auto(self):
        console = Console(Desk(B64, "even", 64))
        texts = ("1e15", "1e16", "123456789e-8", "0.0001", "0.00001", "5e-324", "1.7976931348623157e308", "-1.5e-5", "9007199254740993")
        self.assertEqual([console.execute(f"read {text}") for text in texts],
                         ["1000000000000000 slow", "1e16 slow", "1.23456789 slow", "0.0001 slow", "1e-5 slow", "5e-324 slow",
                          "1.7976931348623157e308 slow", "-1.5e-5 slow", "9007199254740992 slow"])

    def test_texts_are_by_the_present_way(self):
        for way in WAYS:
            self.answers(f"turn {way}")
            for text in ("2.25", "0.1", "29", "-3.1"):
                sign, code, is_fast = self.desk.read(text)
                told = number_text(T, way, sign, code) + (" fast" if is_fast else " slow")
                self.assertEqual(self.answers(f"read {text}"), [told])
        self.assertEqual(self.desk.read("1e9")[1], count_of(T) - 1)

    def test_words_of_any_characters(self):
        for word in ("x", "1.2.3", "\n", "0.5\n", "\t5", "a,b", "5\t", "'", "1e1201", "--1", "", "."):
            wanted = "error BadText" if word else UNKNOWN
            self.assertEqual(self.answers(f"read {word}"), [wanted], word)
        for word in ("up", "Even", "even\n", "5", "-", "none"):
            self.assertEqual(self.answers(f"turn {word}"), ["error BadWay"])
        self.assertEqual(len(self.desk), 0)


class Lines(Case):
    def test_spaces(self):
        self.check_unknown("", " ", "  ", " rows", "rows ", "put  0 1 0 0", "put 0 1 0 0 ", " put 0 1 0 0", "put 0 1 0  0",
                           "turn  odd", "turn ", "read ", "read  5", "read 5 ", "undo ", "\trows", "rows\n", "put\t0 1 0 0")

    def test_other_words_and_too_many_or_few(self):
        self.check_unknown("row", "ROWS", "Rows", "put", "put 0 1 0", "put 0 1 0 0 0", "drop", "drop 1 2", "guard", "guard 1 2",
                           "unguard", "turn", "turn odd odd", "undo 1", "rows 1", "way even", "fault 1", "read", "read 1 2",
                           "spare", "spare 1", "spare 1 2", "attempt 1", "state", "edits", "walk", "len", "unknown command")

    def test_what_is_no_number(self):
        for word in ("+1", "-0", "00", "01", "-01", "1.0", "1e0", "one", "-", "--1", "0x1", "1_0", "1\n", "1\t", "True", "None",
                     "-00", "\u0661", "\u00b2", "1" * 81, "-" + "1" * 81, "0" * 80):
            self.check_unknown(f"drop {word}", f"guard {word}", f"unguard {word}", f"put {word} 1 0 0", f"put 0 {word} 0 0",
                               f"put 0 1 {word} 0", f"put 0 1 0 {word}", f"spare {word}")

    def test_80_digits(self):
        for word in ("1" * 80, "-" + "9" * 80, "0", "-1", "10"):
            self.assertEqual(self.answers(f"drop {word}", f"guard {word}", f"unguard {word}"), ["error NoRow"] * 3)
        self.assertEqual(self.answers("put 0 " + "9" * 80 + " 0 0", "put 0 -" + "9" * 80 + " 0 0", "put 0 0 0 0"),
                         ["error BadRow", "error BadRow", "error BadRow"])

    def test_what_is_no_text(self):
        self.check_unknown(*[value for value in any_values() if not isinstance(value, str)], ["rows"], ("rows",), b"rows")
        self.check_unknown(*[value for value in any_values() if isinstance(value, str)])


class Spare(Case):
    def test_of_a_sure_desk(self):
        self.console = Console(SureDesk(T, "even", 3, 8))
        self.assertEqual(self.answers("spare 1", "spare 3", "spare 255", "spare 256", "spare 0", "spare -5", "spare " + "9" * 80),
                         ["7", "6", "0", "error TooWide", "error BadNumber", "error BadNumber", "error BadNumber"])
        self.check_unknown("spare", "spare 1 2", "spare x", "spare +1", "spare 01")

    def test_of_a_desk(self):
        self.check_unknown("spare 1", "spare 3")


class Errors(Case):
    def test_the_name_of_each_error(self):
        self.answers("put 0 1 0 0", "put 1 7 0 0", "put 2 25 2 0", "guard 0")
        self.assertEqual(
            self.answers("put 0 0 0 0", "put 0 3 0 0", "drop 5", "guard 5", "unguard 5", "guard 1", "guard 0", "unguard 2",
                         "turn up", "read up"),
            ["error BadRow", "error NotSound", "error NoRow", "error NoRow", "error NoRow", "error NotSound", "error Guarded",
             "error NoGuard", "error BadWay", "error BadText"])

    def test_nothing_to_undo_and_too_many(self):
        self.assertEqual(self.answers("undo"), ["error NothingToUndo"])
        for exponent in range(MAX_ROWS):
            self.answers(f"put {exponent} 1 0 0")
        self.assertEqual(self.answers("put -1 1 0 0"), ["error TooManyRows"])
        for _ in range(MAX_EDITS - MAX_ROWS):
            self.answers("turn odd")
        self.assertEqual(self.answers("turn odd", "drop 99", "put -1 1 0 0", f"drop {MAX_ROWS}"), ["error TooManyEdits"] * 4)

    def test_busy(self):
        seen = []
        self.desk.attempt([("put", 0, 1, 0, 0)], watch=lambda desk: seen.extend(
            self.answers("turn odd", "undo", "put 0 1 0 0", "drop 5", "rows", "way", "fault", "read 5")))
        self.assertEqual(seen, ["error Busy"] * 4 + ["0 1 0 0", "even", "none", "5 fast"])

    def test_of_a_sure_desk(self):
        self.console = Console(SureDesk(T, "even", 3, 2))
        self.assertEqual(self.answers("put 0 4 -2 0", "put -1 1 -4 3", FINE, "turn zero", "rows"),
                         ["error TooWide", "error Wrong", "ok 1", "error Wrong", "-1 3 -5 1"])


if __name__ == "__main__":
    unittest.main()
