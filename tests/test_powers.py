import unittest

from numbertexts.powers import decade_of, log_of, raised, reaches, shifted, tens_below
from slow_ways import power


class Powers(unittest.TestCase):
    def test_raised_and_shifted(self):
        self.assertEqual([raised(7, exponent) for exponent in (0, 1, 2, 5, 1300)], [1, 7, 49, 16807, 7 ** 1300])
        self.assertEqual([shifted(5, 0), shifted(5, 3), shifted(5, -3)], [(5, 1), (40, 1), (5, 8)])

    def test_logarithms(self):
        for num, den in ((1, 1), (2, 1), (3, 1), (1, 2), (1, 3), (7, 8), (8, 7), (2 ** 900, 2 ** 901 - 1), (10 ** 400, 1), (1, 10 ** 400)):
            k, t = log_of(num, den), decade_of(num, den)
            self.assertTrue(power(2, k) * den <= num < power(2, k + 1) * den, (num, den))
            self.assertTrue(power(10, t) * den <= num < power(10, t + 1) * den, (num, den))
            self.assertEqual([reaches(num, den, t), reaches(num, den, t + 1)], [True, False])

    def test_powers_of_ten_below_powers_of_two(self):
        for k in range(-2620, 2621):
            t = tens_below(k)
            if k >= 0:
                self.assertTrue(10 ** t <= 2 ** k < 10 ** (t + 1), k)
            else:
                self.assertTrue(10 ** (-t - 1) < 2 ** -k <= 10 ** -t, k)


if __name__ == "__main__":
    unittest.main()
