import unittest

from numbertexts.bounds import MAX_ROWBITS
from numbertexts.errors import BadBits, BadNumber, TooWide
from numbertexts.promises import Pledge
from slow_ways import any_values


class Pledges(unittest.TestCase):
    def raised(self, error, function, *arguments):
        with self.assertRaises(error) as caught:
            function(*arguments)
        self.assertIs(type(caught.exception), error)
        return caught.exception

    def test_most(self):
        for most in (1, 2, 64, MAX_ROWBITS):
            self.assertEqual(Pledge(most).most, most)

    def test_what_is_no_number_of_bits(self):
        for value in (0, -1, MAX_ROWBITS + 1, *any_values()):
            if type(value) is not int or not 1 <= value <= MAX_ROWBITS:
                self.assertIs(self.raised(BadBits, Pledge, value).value, value)

    def test_spare_at_the_limits_of_most(self):
        for most in (1, 2, 8, 64, MAX_ROWBITS):
            made = Pledge(most)
            self.assertEqual(made.spare(1), most - 1)
            self.assertEqual(made.spare(2 ** most - 1), 0)
            self.assertEqual(made.spare(2 ** (most - 1)), 0)
            if most > 1:
                self.assertEqual(made.spare(2 ** (most - 1) - 1), 1)
            if most < MAX_ROWBITS:
                self.assertEqual(self.raised(TooWide, made.spare, 2 ** most).bits, most + 1)
                self.assertEqual(self.raised(TooWide, made.spare, 2 ** MAX_ROWBITS - 1).bits, MAX_ROWBITS)
            self.assertEqual(made.most, most)

    def test_what_is_no_number(self):
        for most in (1, MAX_ROWBITS):
            made = Pledge(most)
            for value in (0, -1, 2 ** MAX_ROWBITS, 2 ** MAX_ROWBITS + 1, *any_values()):
                if type(value) is not int or not 1 <= value < 2 ** MAX_ROWBITS:
                    self.assertIs(self.raised(BadNumber, made.spare, value).value, value)


if __name__ == "__main__":
    unittest.main()
