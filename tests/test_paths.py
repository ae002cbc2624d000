import copy
import unittest

from numbertexts.bounds import MAX_ROWBITS, MAX_ROWS, MAX_WORD
from numbertexts.errors import NotSound
from numbertexts.formats import told_format
from numbertexts.paths import fewest_bits, needed_guards, path_error, path_fault, read_by
from numbertexts.reading import read
from numbertexts.rows import cut_row, guarded_read, is_sound, plain_read
from numbertexts.wrongs import first_slow, first_wrong
from slow_ways import SMALL_FORMATS, WAYS, any_values

T = (3, -2, 2)
B64 = told_format("binary64")
FORMATS = (*SMALL_FORMATS, (1, -3, 4), (1, -2, 0), (2, -3, 5), (1, -12, 12))
GREAT = (told_format("binary16"), B64, (128, -1200, 1200), (1, -1200, 1200))
ROWS = ((-1, 25, -8, 1), (0, 1, 0, 0))
MOST_BITS = 40


def wrong_numbers(form, way, word, row):
    return [number for number in range(1, 2 ** word)
            if plain_read(form, way, row, number) != read(form, way, (number, row[0]))]


def serves(form, way, word, row, guarded):
    """Whether the row serves for all numbers of a short word."""
    if guarded:
        return all(guarded_read(form, way, row, number) is not None for number in range(1, 2 ** word))
    return not wrong_numbers(form, way, word, row)


class FewestBits(unittest.TestCase):
    def test_small_formats_against_the_bits_one_by_one(self):
        seen = {(guarded, never): 0 for guarded in (False, True) for never in (False, True)}
        for form in FORMATS:
            for way in WAYS:
                for exponent in (-3, -2, -1, 0, 1, 2, 3):
                    for word in (1, 3, 5):
                        for guarded in (False, True):
                            wanted = None
                            for bits in range(1, MOST_BITS):
                                if serves(form, way, word, cut_row(exponent, bits), guarded):
                                    wanted = bits
                                    break
                            found = fewest_bits(form, way, word, exponent, guarded=guarded)
                            self.assertEqual(found, wanted, (form, way, word, exponent, guarded))
                            seen[(guarded, wanted is None)] += 1
        self.assertGreater(min(seen.values()), 20)

    def test_more_bits_serve_too(self):
        for form in (T, (2, -4, -1), (1, -2, 3)):
            for way in WAYS:
                for exponent in (-2, -1, 1, 2):
                    for guarded in (False, True):
                        fewest = fewest_bits(form, way, 4, exponent, guarded=guarded)
                        for bits in range(1, 24):
                            row = cut_row(exponent, bits)
                            self.assertIs(serves(form, way, 4, row, guarded), fewest is not None and bits >= fewest)

    def test_great_formats(self):
        none = 0
        for form in GREAT:
            for k, exponent in enumerate((-400, -330, -200, -100, -30, -2, -1, 0, 1, 22, 60, 150, 308, 400)):
                for word in (24, 64, 128):
                    for guarded in (False, True):
                        way = WAYS[(k + word) % 5]
                        first = first_slow if guarded else first_wrong
                        bits = fewest_bits(form, way, word, exponent, guarded=guarded)
                        if bits is None:
                            none += 1
                            self.assertLess(exponent, 0)
                            self.assertIsNot(first(form, way, word, cut_row(exponent, 900)), None)
                        else:
                            told = (form, way, word, exponent, guarded)
                            self.assertIs(first(form, way, word, cut_row(exponent, bits)), None, told)
                            if bits > 1:
                                self.assertIsNot(first(form, way, word, cut_row(exponent, bits - 1)), None, told)
        self.assertGreater(none, 10)

    def test_more_bits_than_a_row_may_have(self):
        form = (128, -1200, 1200)
        bits = fewest_bits(form, "even", 128, -342, guarded=True)
        self.assertGreater(bits, MAX_ROWBITS)
        self.assertIs(first_slow(form, "even", 128, cut_row(-342, bits)), None)
        self.assertIsNot(first_slow(form, "even", 128, cut_row(-342, bits - 1)), None)

    def test_the_power_itself_always_serves_from_0_on(self):
        for exponent in (0, 1, 5, 54, 55, 110, 400):
            most = (5 ** exponent).bit_length()
            for way in WAYS:
                for guarded in (False, True):
                    for form in GREAT:
                        self.assertLessEqual(fewest_bits(form, way, 128, exponent, guarded=guarded), most)

    def test_just_below_and_just_above(self):
        # 5 * 0.1 is the number with the code 2; 55 * 0.1 lies half way, and is read as the greater one.
        self.assertEqual([fewest_bits(T, way, 3, -1) for way in WAYS], [2, 2, None, 2, None])
        self.assertEqual([fewest_bits(T, way, 3, -1, guarded=True) for way in WAYS], [4, 4, None, None, None])
        self.assertIs(fewest_bits(T, "even", 6, -1), None)
        self.assertIsNot(fewest_bits(T, "even", 5, -1), None)

    def test_guarded_is_passed_by_keyword(self):
        with self.assertRaises(TypeError):
            fewest_bits(T, "even", 4, -1, True)


class PathError(unittest.TestCase):
    def test_paths(self):
        for value in ((1, (), ()), (MAX_WORD, ROWS, (-1, 0)), (4, ROWS, ()), (4, ROWS, (0,)), (4, ROWS[:1], (-1,)),
                      (4, tuple((k, 1, 0, 0) for k in range(MAX_ROWS)), (0,)), (4, ((-1, 13, -7, 1), (0, 1, 0, 0)), (0,))):
            self.assertIs(path_error(value), None, value)

    def test_what_is_no_path(self):
        for value in (*any_values(), [4, ROWS, ()], (4, ROWS), (4, ROWS, (), ()), "abc"):
            if not (isinstance(value, tuple) and len(value) == 3):
                kept = copy.deepcopy(value)
                self.assertEqual(path_error(value), (None, "path"))
                self.assertEqual(value, kept)

    def test_what_is_no_word(self):
        for word in (0, -1, MAX_WORD + 1, *(value for value in any_values() if type(value) is not int)):
            self.assertEqual(path_error((word, None, None)), (None, "word"), word)

    def test_what_are_no_rows(self):
        many = tuple((k, 1, 0, 0) for k in range(MAX_ROWS + 1))
        for rows in (list(ROWS), many, None, "rows", {}, 5, True, tuple(range(41))):
            self.assertEqual(path_error((4, rows, None)), (None, "rows"), rows)

    def test_rows_one_by_one(self):
        good = (1, 5, 1, 0)
        for value in any_values():
            if value != (1, 2, 3, 4):
                self.assertEqual(path_error((4, (*ROWS, value, good), None)), (2, "row"), value)
        self.assertEqual(path_error((4, ((1, 2, 3, 4), None), None)), (0, "row"))
        self.assertEqual(path_error((4, (*ROWS, (True, 5, 1, 0)), ())), (2, "row"))
        self.assertEqual(path_error((4, (*ROWS, (0, 3, 1, 0), None), None)), (2, "order"))
        self.assertEqual(path_error((4, (*ROWS, (-1, 3, 1, 0)), None)), (2, "order"))
        self.assertEqual(path_error((4, ROWS[::-1], 5)), (1, "order"))
        # The row that is no row is told, although its power would be out of order, too.
        self.assertEqual(path_error((4, (*ROWS, (-1, 0, 1, 0)), None)), (2, "row"))

    def test_guards(self):
        rows = ((-1, 25, -8, 1), (0, 3, 0, 0), (1, 5, 1, 0), (2, 25, 2, 0))
        for guards in ([], [-1], None, "a", 5, {-1: True}):
            self.assertEqual(path_error((4, rows, guards)), (None, "guards"), guards)
        for value in any_values():
            if type(value) is not int or abs(value) > 9:
                self.assertEqual(path_error((4, rows, (-1, value))), (1, "guard"), value)
        self.assertEqual(path_error((4, rows, (-2,))), (0, "guard"))
        self.assertEqual(path_error((4, rows, (-1, 0))), (1, "guard"))
        self.assertEqual(path_error((4, rows, (-1, 2, 1))), (2, "guard"))
        self.assertEqual(path_error((4, rows, (-1, 1, 1))), (2, "guard"))
        self.assertEqual(path_error((4, rows, (2, 1))), (1, "guard"))
        self.assertEqual(path_error((4, rows, (1, 1))), (1, "guard"))
        self.assertEqual(path_error((4, rows, (-1, True))), (1, "guard"))
        self.assertEqual(path_error((4, (), (0,))), (0, "guard"))
        self.assertIs(path_error((4, rows, (-1, 1, 2))), None)
        self.assertEqual(path_error((4, rows, tuple(range(1500)))), (0, "guard"))

    def test_the_first_of_several_is_told(self):
        self.assertEqual(path_error((0, [], [])), (None, "word"))
        self.assertEqual(path_error((1, [], [])), (None, "rows"))
        self.assertEqual(path_error((1, (None,), [])), (0, "row"))
        self.assertEqual(path_error((1, ROWS, [])), (None, "guards"))


class ReadBy(unittest.TestCase):
    PATH = (4, ((-1, 25, -8, 1), (0, 1, 0, 0), (1, 5, 1, 2)), (-1, 1))

    def test_all_short_decimals(self):
        word, rows, guards = self.PATH
        for way in WAYS:
            for q in range(-3, 4):
                for d in range(20):
                    row = dict((row[0], row) for row in rows).get(q)
                    wanted = None
                    if row is not None and d < 2 ** word:
                        wanted = (guarded_read if q in guards else plain_read)(T, way, row, d)
                    self.assertEqual(read_by(T, way, self.PATH, (d, q)), wanted, (way, d, q))

    def test_each_side_of_the_word(self):
        for word in (1, 53, 128):
            path = (word, ((0, 1, 0, 0),), ())
            self.assertEqual(read_by(B64, "zero", path, (2 ** word - 1, 0)), read(B64, "zero", (2 ** word - 1, 0)))
            self.assertIs(read_by(B64, "zero", path, (2 ** word, 0)), None)
            self.assertIs(read_by(B64, "zero", path, (10 ** 1299, 0)), None)

    def test_the_decimal_is_taken_as_it_is_passed(self):
        path = (4, ((-1, 25, -8, 1),), ())
        self.assertEqual(read_by(T, "even", path, (10, -1)), 4)
        self.assertIs(read_by(T, "even", path, (1, 0)), None)
        self.assertEqual(read_by(T, "even", path, (0, -1)), 0)
        self.assertIs(read_by(T, "even", path, (0, 0)), None)

    def test_slow_numbers_and_plain_runs(self):
        self.assertIs(read_by(T, "even", (4, ROWS, (-1,)), (14, -1)), None)
        # The plain run tells a wrong code.
        self.assertEqual(read_by(T, "even", (4, ROWS, ()), (14, -1)), 5)
        self.assertEqual(read(T, "even", (14, -1)), 6)

    def test_without_rows(self):
        self.assertIs(read_by(T, "even", (4, (), ()), (5, 0)), None)


def many_rows(form):
    return (cut_row(-2, form[0]), (-1, 1, -4, 3), cut_row(0, 2), (1, 7, 1, 3), cut_row(2, form[0] + 1), (3, 125, 3, 1))


class Faults(unittest.TestCase):
    def test_small_words_against_going_through_all_numbers(self):
        seen = 0
        for form in FORMATS:
            rows = many_rows(form)
            for way in WAYS:
                for word in (1, 3, 5):
                    wrong = [(row[0], wrong_numbers(form, way, word, row)) for row in rows]
                    for guards in ((), (-2,), (-2, -1), (0, 2), (-2, -1, 0, 2, 3)):
                        guards = tuple(guard for guard in guards if is_sound(rows[guard + 2]))
                        left = [(exponent, found[0]) for exponent, found in wrong if found and exponent not in guards]
                        fault = path_fault(form, way, (word, rows, guards))
                        self.assertEqual(fault, left[0] if left else None, (form, way, word, guards))
                        seen += fault is not None
                    self.check_guards(form, way, word, rows, wrong)
        self.assertGreater(seen, 200)

    def check_guards(self, form, way, word, rows, wrong):
        due = [exponent for exponent, found in wrong if found and not is_sound(rows[exponent + 2])]
        if due:
            with self.assertRaises(NotSound) as caught:
                needed_guards(form, way, word, rows)
            self.assertEqual(caught.exception.power, due[0])
        else:
            pairs = needed_guards(form, way, word, rows)
            self.assertEqual(pairs, tuple((exponent, found[0]) for exponent, found in wrong if found))
            self.assertIs(path_fault(form, way, (word, rows, tuple(exponent for exponent, _ in pairs))), None)

    def test_sound_rows_only(self):
        for form in FORMATS:
            rows = tuple(row for row in many_rows(form) if is_sound(row))
            for way in WAYS:
                pairs = needed_guards(form, way, 5, rows)
                powers = tuple(exponent for exponent, _ in pairs)
                self.assertIs(path_error((5, rows, powers)), None)
                self.assertIs(path_fault(form, way, (5, rows, powers)), None)
                for place, (exponent, number) in enumerate(pairs):
                    fewer = powers[:place] + powers[place + 1:]
                    self.assertEqual(path_fault(form, way, (5, rows, fewer)), (exponent, number))

    def test_a_row_that_is_not_sound_but_never_wrong(self):
        # It is wrong only for greater numbers than those of the word.
        rows = ((0, 2 ** 9 + 1, -9, 1),)
        self.assertIs(is_sound(rows[0]), False)
        self.assertEqual(needed_guards(T, "zero", 3, rows), ())
        self.assertIs(path_fault(T, "zero", (3, rows, ())), None)

    def test_without_rows(self):
        self.assertIs(path_fault(T, "even", (4, (), ())), None)
        self.assertEqual(needed_guards(T, "even", 4, ()), ())

    def test_what_a_path_without_fault_tells_is_right(self):
        rows = tuple(cut_row(exponent, 90) for exponent in range(-15, 15))
        pairs = needed_guards(B64, "even", 64, rows)
        path = (64, rows, tuple(exponent for exponent, _ in pairs))
        self.assertIs(path_fault(B64, "even", path), None)
        for exponent, number in pairs:
            self.assertIs(read_by(B64, "even", path, (number, exponent)), None)
            self.assertEqual(first_wrong(B64, "even", 64, rows[exponent + 15]), number)
        for exponent in range(-15, 15):
            for number in (1, 7, 2 ** 53 + 1, 2 ** 63 + 12345, 2 ** 64 - 1):
                code = read_by(B64, "even", path, (number, exponent))
                self.assertTrue(code is None or code == read(B64, "even", (number, exponent)))


if __name__ == "__main__":
    unittest.main()
