import copy
import unittest
from fractions import Fraction

from numbertexts.errors import BadDecimal, BadFormat, BadPath, BadSteps, BadWay, NoCode, OtherFormat
from numbertexts.formats import count_of, format_error, told_format, value_of
from numbertexts.paths import path_error, read_by
from numbertexts.printing import shortest
from numbertexts.reading import is_way, read
from numbertexts.values import Number, Reader
from slow_ways import SMALL_FORMATS, any_values, numbers_of, power

T = (3, -2, 2)
B16 = told_format("binary16")
GREAT = (128, -1200, 1200)
ROWS = ((-1, 25, -8, 1), (0, 1, 0, 0))


def raised(case, error, function, *arguments):
    with case.assertRaises(error) as caught:
        function(*arguments)
    case.assertIs(type(caught.exception), error)
    return caught.exception


def own_values():
    """Any values, and objects of the package itself."""
    return [*any_values(), Number(T, 9), Reader(T, "even", (4, ROWS, ())), (Number(T, 9),), [Number(T, 9)]]


class Numbers(unittest.TestCase):
    def test_form_and_code(self):
        for form in (T, B16, GREAT):
            for code in (0, 1, count_of(form) - 1):
                one = Number(form, code)
                self.assertEqual((one.form, one.code), (form, code))

    def test_what_is_no_format(self):
        for value in own_values():
            if value != T:
                error = raised(self, BadFormat, Number, value, None).error
                self.assertEqual(error, format_error(value))
        self.assertEqual(raised(self, BadFormat, Number, (3, 2, -2), 99).error, "high")
        self.assertEqual(raised(self, BadFormat, Number, (True, 0, 0), 0).error, "precision")

    def test_what_is_no_code(self):
        for value in (24, 25, -1, *own_values()):
            if type(value) is not int or not 0 <= value < 24:
                self.assertIs(raised(self, NoCode, Number, T, value).code, value)

    def test_steps(self):
        one = Number(T, 20)
        for steps in (-20, -1, 0, 1, 3):
            other = one + steps
            self.assertIs(type(other), Number)
            self.assertEqual((other.form, other.code), (T, 20 + steps))
        for steps in (4, 5, -21, 10 ** 1499, -10 ** 1499):
            self.assertEqual(raised(self, NoCode, lambda: one + steps).code, 20 + steps)
        for steps in own_values():
            if type(steps) is not int:
                self.assertIs(raised(self, BadSteps, lambda: one + steps).value, steps)
        self.assertEqual(one.code, 20)

    def test_differences(self):
        for code in range(24):
            for other in (0, 9, 23):
                self.assertEqual(Number(T, code) - Number(T, other), code - other)
                self.assertEqual((Number(T, other) + (Number(T, code) - Number(T, other))).code, code)
        for form in (B16, (3, -2, 3), (3, -3, 2)):
            raised(self, OtherFormat, lambda: Number(T, 9) - Number(form, 9))

    def test_decimals_in_a_number(self):
        for code in range(24):
            one = Number(T, code)
            for decimal in ((25, -1), (225, -2), (275, -2), (2750, -3), (0, 5), (1, -1), (28, 0), (30, 0), (4, 2500)):
                self.assertIs(decimal in one, read(T, "even", decimal) == code)
            for value in own_values():
                if value != (1,):
                    self.assertIs(value in one, False, value)
        for value in ((5, 2501), (True, 0), (5, False), (-5, 0), (10 ** 1300, 0), [5, 0], 5, (5,), (5, 0, 0)):
            self.assertIs(value in Number(T, 13), False)

    def test_len_and_str(self):
        for form in (*SMALL_FORMATS, B16, GREAT):
            last = count_of(form) - 1
            for code in sorted({0, 1, min(7, last), last // 2, last}):
                one = Number(form, code)
                self.assertEqual(len(one), len(str(shortest(form, "even", code)[0])))
                m, e = value_of(form, code)
                self.assertEqual(str(one), str(m) + "*2**" + str(e))
        self.assertEqual([len(Number(T, code)) for code in (0, 1, 7, 8, 23)], [1, 1, 2, 1, 2])
        self.assertEqual(str(Number(T, 0)), "0*2**-2")

    def test_equality(self):
        one = Number(T, 9)
        self.assertTrue(one == Number(T, 9) and not one != Number(T, 9))
        for other in (Number(T, 10), Number((3, -2, 3), 9), Number(B16, 9), *any_values(), (T, 9), 9):
            self.assertFalse(one == other)
            self.assertTrue(one != other)

    def test_moved(self):
        for form in SMALL_FORMATS:
            for other in SMALL_FORMATS:
                for code, value in enumerate(numbers_of(form)):
                    moved = Number(form, code).moved(other)
                    if value in numbers_of(other):
                        self.assertIs(type(moved), Number)
                        self.assertEqual((moved.form, moved.code), (other, numbers_of(other).index(value)))
                    else:
                        self.assertIs(moved, None)
        last = Number(GREAT, count_of(GREAT) - 1)
        self.assertEqual(last.moved(GREAT), last)
        self.assertIs(last.moved((127, -1200, 1200)), None)
        self.assertIs(last.moved(B16), None)

    def test_is_less(self):
        for form in SMALL_FORMATS[:4]:
            for other in (*SMALL_FORMATS[:4], (1, 1200, 1200), (1, -1200, -1200)):
                for code, value in enumerate(numbers_of(form)):
                    for other_code, other_value in enumerate(numbers_of(other)):
                        self.assertIs(Number(form, code).is_less(Number(other, other_code)), value < other_value)

    def test_operators_change_nothing(self):
        one, other = Number(T, 9), Number(T, 11)
        kept = copy.deepcopy(vars(one))
        one + 3, one - other, (25, -1) in one, len(one), str(one), one == other, one.moved(B16), one.is_less(other)
        self.assertEqual(vars(one), kept)


class Readers(unittest.TestCase):
    PATH = (5, ((-1, 51, -9, 1), (0, 1, 0, 0)), ())

    def test_what_is_no_format(self):
        for value in own_values():
            if value != T:
                self.assertEqual(raised(self, BadFormat, Reader, value, None, None).error, format_error(value))

    def test_what_is_no_way(self):
        for value in own_values():
            if not is_way(value):
                self.assertIs(raised(self, BadWay, Reader, T, value, None).value, value)

    def test_what_is_no_path(self):
        for value in (*own_values(), (0, (), ()), (4, [], ()), (4, (ROWS[0], None), ()), (4, ROWS[::-1], ()), (4, ROWS, (1,))):
            error = raised(self, BadPath, Reader, T, "even", value).error
            self.assertEqual(error, path_error(value))
            self.assertIsNot(error, None)

    def test_calls_are_counted(self):
        reader = Reader(T, "even", self.PATH)
        self.assertEqual((reader.fast, reader.slow, reader.last), (0, 0, None))
        fast, slow = 0, 0
        for decimal in ((25, -1), (5, 0), (225, -2), (32, 0), (31, 0), (31, -1), (0, 0), (0, 7), (10 ** 1299, 2500), (14, -1)):
            code = read_by(T, "even", self.PATH, decimal)
            fast, slow = fast + (code is not None), slow + (code is None)
            wanted = read(T, "even", decimal) if code is None else code
            self.assertEqual(reader(decimal), wanted, decimal)
            self.assertEqual((reader.fast, reader.slow, reader.last), (fast, slow, (decimal, wanted)))
        self.assertGreater(min(fast, slow), 2)

    def test_plain_runs_answer_also_wrongly(self):
        reader = Reader(T, "even", (4, ROWS, ()))
        self.assertEqual([reader((14, -1)), reader.fast, reader.slow], [5, 1, 0])
        guarded = Reader(T, "even", (4, ROWS, (-1,)))
        self.assertEqual([guarded((14, -1)), guarded.fast, guarded.slow, guarded.last], [6, 0, 1, ((14, -1), 6)])

    def test_what_is_no_decimal(self):
        reader = Reader(T, "even", self.PATH)
        reader((25, -1))
        for value in (*own_values(), (5, 2501), (True, 0), (-1, 0), [5, 0], (10 ** 1300, 0)):
            self.assertIs(raised(self, BadDecimal, reader, value).value, value)
            self.assertEqual((reader.fast, reader.slow, reader.last), (1, 0, ((25, -1), 9)))

    def test_readers_count_each_for_itself(self):
        one, other = Reader(T, "even", self.PATH), Reader(T, "zero", self.PATH)
        one((25, -1))
        self.assertEqual((one.fast, other.fast, other.last), (1, 0, None))
        self.assertEqual((one((225, -2)), other((225, -2))), (8, 8))


class Values(unittest.TestCase):
    def test_numbers_are_ordered_as_their_values(self):
        form = (4, -6, 2)
        codes = [Number(form, code) for code in range(count_of(form))]
        for k in range(len(codes) - 1):
            self.assertTrue(codes[k].is_less(codes[k + 1]))
            m, e = value_of(form, k)
            self.assertEqual(Fraction(m) * power(2, e), numbers_of(form)[k])


if __name__ == "__main__":
    unittest.main()
