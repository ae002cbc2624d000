"""The guarantees of point 2, each over several modules."""

import itertools
import random
import unittest

from numbertexts.consoles import Console
from numbertexts.decimals import compare, plain_decimal
from numbertexts.desks import Desk, SureDesk
from numbertexts.errors import NumberError
from numbertexts.formats import count_of, told_format, value_of
from numbertexts.hard import count_near, each_near, hardest, near_at
from numbertexts.hits import count_hits, each_hit, hit_at
from numbertexts.lengths import code_with_length, count_length, length_of, longest_length, up_to
from numbertexts.paths import fewest_bits, needed_guards, path_error, path_fault, read_by
from numbertexts.printing import exact, rounded, shortest
from numbertexts.printrows import cut_print_row, fast_shortest, fewest_print_bits
from numbertexts.ranges import is_read_as, range_of
from numbertexts.reading import around, read
from numbertexts.rows import cut_row, guarded_read, is_sound, plain_read
from numbertexts.steps import corrected_row, step_faults, stepped_row
from numbertexts.texts import hex_text, number_text, read_text
from numbertexts.trips import (
    count_dropped, count_lost, digits_enough, digits_kept, dropped_at, is_enough, is_kept, least_dropped, least_lost,
    lost_at)
from numbertexts.values import Number, Reader
from numbertexts.wrongs import (
    count_slow, count_wrong, each_wrong, first_slow, first_wrong, slow_at, wrong_at)
from slow_ways import SMALL_FORMATS, WAYS, power, worth

T = (3, -2, 2)
B16, B64 = told_format("binary16"), told_format("binary64")
FORMATS = (*SMALL_FORMATS, (1, -3, 4), (4, -6, 2))
GREAT = (B16, B64, (128, -1200, 1200), (1, -1200, 1200))


def some_decimals():
    picker = random.Random(2)
    return sorted({*((d, q) for d in range(40) for q in (-3, -2, -1, 0, 1)), (3, -30), (7, 300), (1, 23), (5, -324), (1, 2500),
                   *((picker.randrange(10 ** 20), picker.randint(-40, 40)) for _ in range(60))}, key=worth)


def some_codes(form):
    beyond = count_of(form)
    picker = random.Random(beyond)
    if beyond < 60:
        return range(beyond)
    return sorted({0, 1, 2, 3, beyond - 2, beyond - 1, *(picker.randrange(beyond) for _ in range(25))})


class Reading(unittest.TestCase):
    def test_a_reading_is_monotone(self):
        decimals = some_decimals()
        for form in (*FORMATS, *GREAT):
            for way in WAYS:
                codes = [read(form, way, decimal) for decimal in decimals]
                self.assertEqual(codes, sorted(codes), (form, way))
                for decimal, code in zip(decimals, codes):
                    self.assertTrue(0 <= code <= count_of(form))
                    lower, upper = around(form, decimal)
                    self.assertIn(code, (lower, upper))
                    self.assertIs(is_read_as(form, way, code, decimal), True)

    def test_a_each_decimal_is_read_as_just_one_code(self):
        for form in (T, (1, -1, 0), (2, -4, -1)):
            for way in WAYS:
                for decimal in some_decimals()[:120]:
                    codes = [code for code in range(count_of(form) + 1) if is_read_as(form, way, code, decimal)]
                    self.assertEqual(codes, [read(form, way, decimal)])
                    self.assertIsNot(range_of(form, way, codes[0]), None)

    def test_a_numbers_are_read_as_their_own_codes(self):
        for form in (*FORMATS, *GREAT):
            for code in some_codes(form):
                d, q = exact(form, code)
                for way in WAYS:
                    # Decimals of great formats may have more digits than a decimal may have.
                    if q >= -2500 and d < 10 ** 1300:
                        self.assertEqual(read(form, way, (d, q)), code)
                    self.assertEqual(read_text(form, way, hex_text(form, 0, code)), (0, code))

    def test_b_shortest_decimals(self):
        for form in (*FORMATS, *GREAT):
            for code in some_codes(form):
                for way in WAYS:
                    d, q = shortest(form, way, code)
                    # Only the exact decimal is read as an even code by "odd".
                    if q >= -2500 and d < 10 ** 1300:
                        self.assertEqual(read(form, way, (d, q)), code, (form, way, code))
                        self.assertEqual(plain_decimal((d, q)), (d, q))
                        self.check_fewer_digits(form, way, code, (d, q))
                if code > 0:
                    self.assertEqual(length_of(form, code), len(Number(form, code)))
                    self.assertTrue(shortest(form, "even", code) in Number(form, code))

    def check_fewer_digits(self, form, way, code, decimal):
        """The decimals with a digit less that lie next to the number are not read as it."""
        d, q = decimal
        digits = len(str(d))
        if digits == 1:
            return
        m, e = value_of(form, code)
        real = m * power(2, e)
        place = q + digits
        while power(10, place) > real:
            place -= 1
        step = place + 2 - digits
        near = real / power(10, step)
        whole = near.numerator // near.denominator
        for other in (whole, whole + 1):
            self.assertNotEqual(read(form, way, (other, step)), code, (form, way, code))


class FastWays(unittest.TestCase):
    def test_c_no_number_is_wrong_or_the_least_one_is_told(self):
        for form in FORMATS:
            for way in WAYS:
                for row in (cut_row(-1, form[0] + 3), cut_row(-2, 2), cut_row(2, form[0] + 1), (1, 7, 1, 3), stepped_row(3, 6, 5)):
                    wrong = [number for number in range(1, 32) if plain_read(form, way, row, number) != read(form, way, (number, row[0]))]
                    self.assertEqual(first_wrong(form, way, 5, row), wrong[0] if wrong else None)
                    self.assertEqual(path_fault(form, way, (5, (row,), ())), (row[0], wrong[0]) if wrong else None)

    def test_c_what_a_guarded_run_tells_is_never_wrong(self):
        picker = random.Random(3)
        for form in (*FORMATS, *GREAT):
            for way in WAYS:
                for exponent in (-300, -27, -1, 1, 28, 300):
                    row = cut_row(exponent, picker.choice((3, 20, 64, 128)))
                    for number in (1, 5, 14, *(picker.randrange(1, 2 ** 128) for _ in range(6))):
                        told = guarded_read(form, way, row, number)
                        self.assertTrue(told is None or told == read(form, way, (number, exponent)), (form, way, row, number))

    def test_c_guards_heal_a_path(self):
        for form in (T, B64, (128, -1200, 1200)):
            for way in WAYS:
                rows = tuple(cut_row(exponent, 40) for exponent in range(-6, 25))
                guards = tuple(exponent for exponent, _ in needed_guards(form, way, 64, rows))
                path = (64, rows, guards)
                self.assertIs(path_error(path), None)
                self.assertIs(path_fault(form, way, path), None)
                reader = Reader(form, way, path)
                for decimal in some_decimals()[:150]:
                    self.assertEqual(reader(decimal), read(form, way, decimal))
                    self.assertIn(read_by(form, way, path, decimal), (None, read(form, way, decimal)))

    def test_d_fewest_bits(self):
        for form in GREAT:
            for k, exponent in enumerate((-342, -55, -1, 30, 200)):
                way = WAYS[k]
                for guarded, first in ((False, first_wrong), (True, first_slow)):
                    bits = fewest_bits(form, way, 64, exponent, guarded=guarded)
                    for more in (0, 1, 2, 10, 100):
                        row = cut_row(exponent, 400 if bits is None else bits + more)
                        self.assertIs(first(form, way, 64, row) is None, bits is not None)
                    if bits is not None and bits > 1:
                        self.assertIsNot(first(form, way, 64, cut_row(exponent, bits - 1)), None)

    def test_d_rows_from_steps_and_their_corrections(self):
        for form, word in ((T, 6), (B64, 64)):
            for exponent in (-30, -8, 4, 29, 60):
                bits = fewest_bits(form, "even", word, exponent)
                if bits is not None:
                    row = corrected_row(7, bits, exponent)
                    self.assertTrue(is_sound(row) and is_sound(stepped_row(7, bits, exponent)))
                    self.assertIs(first_wrong(form, "even", word, row), None)
                    faults = step_faults(form, "even", word, 7, bits, exponent, exponent)
                    self.assertEqual(faults == (), first_wrong(form, "even", word, stepped_row(7, bits, exponent)) is None)

    def test_e_fast_printing(self):
        for form in (B16, (24, -149, 104), B64, (128, -1200, 1200)):
            p, low, high = form
            for exponent in (low, -3, 0, 4, high):
                row = cut_print_row(exponent, fewest_print_bits(form, exponent))
                picker = random.Random(exponent)
                for m in (2 ** (p - 1) + 1, 2 ** p - 1, *(picker.randrange(2 ** (p - 1) + 1, 2 ** p) for _ in range(6))):
                    code = ((exponent - low) << (p - 1)) + m
                    for way in ("even", "away"):
                        told = fast_shortest(form, way, row, code)
                        self.assertEqual(told, shortest(form, way, code))
                        self.assertEqual(read(form, way, told), code)


class Counts(unittest.TestCase):
    def test_f_digits_that_are_enough(self):
        for form in (*FORMATS, *GREAT):
            enough = digits_enough(form)
            for digits in sorted({1, max(enough - 1, 1), enough, enough + 3}):
                if digits <= 40:
                    code = least_lost(form, digits)
                    self.assertIs(is_enough(form, digits), code is None)
                    self.assertEqual(digits >= enough, code is None)
                    self.assertEqual(count_lost(form, digits) == 0, code is None)
                    if code is not None:
                        self.assertEqual(lost_at(form, digits, 0), code)
                        self.assertNotEqual(read(form, "even", rounded(form, code, digits)), code)

    def test_f_decimals_that_are_kept(self):
        for form in (*FORMATS, *GREAT):
            kept = digits_kept(form)
            for digits in sorted({1, max(kept, 1), min(kept + 1, 40), 40}):
                decimal = least_dropped(form, digits)
                self.assertIs(is_kept(form, digits), decimal is None)
                self.assertEqual(digits <= kept, decimal is None)
                self.assertEqual(count_dropped(form, digits) == 0, decimal is None)
                if decimal is not None:
                    self.assertEqual(dropped_at(form, digits, 0), decimal)
                    printed = rounded(form, read(form, "even", decimal), digits)
                    self.assertNotEqual(compare(printed, decimal), 0)

    def test_g_indexes_and_generators_in_the_same_order(self):
        for form in (*FORMATS, *GREAT):
            row = cut_row(-3, 140)
            told = (form, "even", 64, row)
            many = count_wrong(*told)
            self.assertEqual(list(itertools.islice(each_wrong(*told), 5)), [wrong_at(*told, index) for index in range(min(many, 5))])
            self.assertLessEqual(many, count_slow(*told))
            if many > 0:
                self.assertLessEqual(slow_at(*told, 0), wrong_at(*told, 0))
            near = (form, -3, 64, 1, 7)
            many = count_near(*near)
            self.assertEqual(list(itertools.islice(each_near(*near), 5)), [near_at(*near, index) for index in range(min(many, 5))])
        line, window = (10 ** 40 + 1, -3, 10 ** 20), (10 ** 20 - 5, 10 ** 19)
        first = list(itertools.islice(each_hit(line, window, 0, 10 ** 60), 5))
        self.assertEqual(first, [hit_at(line, window, 0, 10 ** 60, index) for index in range(5)])
        self.assertGreater(count_hits(line, window, 0, 10 ** 60), 10 ** 50)

    def test_g_counts_of_short_ones_are_those_of_lists(self):
        for form in FORMATS:
            row = cut_row(-2, form[0] + 2)
            for way in WAYS:
                self.assertEqual(count_wrong(form, way, 7, row), len(list(each_wrong(form, way, 7, row))))
            self.assertEqual(count_near(form, -1, 7, 1, 3), len(list(each_near(form, -1, 7, 1, 3))))
            found = hardest(form, -1, 7)
            if found is not None:
                d, (num, den) = found
                self.assertEqual(near_at(form, -1, 7, num, den, 0), d)
            last = count_of(form) - 1
            self.assertEqual(sum(count_length(form, digits) for digits in range(1, longest_length(form) + 1)), last)
            for digits in range(1, longest_length(form) + 1):
                codes = [code_with_length(form, digits, index) for index in range(count_length(form, digits))]
                self.assertEqual(codes, [code for code in range(1, last + 1) if length_of(form, code) == digits])
                self.assertEqual(up_to(form, digits, last), len([code for code in range(1, last + 1) if length_of(form, code) <= digits]))


class Desks(unittest.TestCase):
    LINES = ("put -1 25 -8 1", "guard -1", "turn away", "undo", "put 0 1 0 0", "unguard -1", "undo", "undo", "put -1 3 -5 1",
             "drop 5", "put 2 25 2 0", "guard 2", "drop -1", "undo", "turn zero", "undo", "undo", "guard 2", "guard 0")

    def test_h_a_desk_is_a_new_one_with_the_edits_that_stand(self):
        for make in (lambda: Desk(T, "even", 4), lambda: SureDesk(T, "even", 3, 5), lambda: Desk(B64, "even", 64)):
            desk = make()
            console = Console(desk)
            for line in self.LINES:
                console.execute(line)
                other = make()
                self.assertEqual(other.attempt(list(desk.edits())[:20]), len(desk))
                self.assertTrue(desk == other)
                self.check_equal(desk, other)

    def check_equal(self, desk, other):
        self.assertEqual([desk.way, desk.rows, desk.guards, desk.path, desk.fault, len(desk), str(desk), desk.state(), desk.edits()],
                         [other.way, other.rows, other.guards, other.path, other.fault, len(other), str(other), other.state(),
                          other.edits()])
        self.assertEqual(list(desk.walk()), list(other.walk()))
        for text in ("0.1", "1.4", "-5", "200", "1e9", "inf", "0x1p0"):
            self.assertEqual(desk.read(text), other.read(text))
            self.assertEqual(Console(desk).execute(f"read {text}"), Console(other).execute(f"read {text}"))

    def test_texts_of_a_desk_lead_back(self):
        desk = Desk(B16, "even", 20)
        for exponent in range(-5, 6):
            desk.put(*cut_row(exponent, 30))
        for exponent, _, wrong in list(desk.walk()):
            if wrong is not None:
                desk.guard(exponent)
        self.assertIs(desk.fault, None)
        for code in some_codes(B16):
            for style in ("plain", "power", "auto"):
                text = number_text(B16, "even", 1, code, style=style)
                self.assertEqual(desk.read(text)[:2], (1, code))


class Errors(unittest.TestCase):
    def test_a_call_that_raises_leaves_the_state_unchanged(self):
        desk = Desk(T, "even", 4)
        desk.put(0, 1, 0, 0)
        kept = (desk.state(), desk.edits(), desk.fault)
        for action in (lambda: desk.put(0, 0, 0, 0), lambda: desk.turn("up"), lambda: desk.attempt([("turn", "odd"), ("turn", 5)]),
                       lambda: desk.read("x")):
            with self.assertRaises(NumberError):
                action()
            self.assertEqual((desk.state(), desk.edits(), desk.fault), kept)


if __name__ == "__main__":
    unittest.main()
