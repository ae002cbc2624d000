import unittest

from numbertexts import bounds

VALUES = {
    "MAX_BITS": 128, "MAX_EXP": 1200, "MAX_DIGITS": 1300, "MAX_POWER": 2500, "MAX_WORD": 128, "MAX_ROW": 400,
    "MAX_ROWBITS": 256, "MAX_ROWS": 40, "MAX_STEP": 27, "MAX_TRIP": 40, "MAX_EDITS": 60, "BATCH": 20,
}


class Bounds(unittest.TestCase):
    def test_each_bound_has_the_value_of_its_point(self):
        found = {name: value for name, value in vars(bounds).items() if not name.startswith("_")}
        self.assertEqual(found, VALUES)

    def test_all_bounds_are_integers(self):
        for name in VALUES:
            self.assertIs(type(getattr(bounds, name)), int, name)


if __name__ == "__main__":
    unittest.main()
