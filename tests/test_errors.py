import unittest

from numbertexts import errors

NUMBER_ERRORS = {
    "NotSound": ("power",), "Coarse": ("power",), "BadText": ("place",), "BadFormat": ("error",),
    "BadWay": ("value",), "BadPath": ("error",), "BadDecimal": ("value",), "BadSteps": ("value",), "OtherFormat": (),
    "BadWord": ("value",), "BadRow": ("error",), "TooManyRows": (), "Guarded": ("power",), "Busy": (),
    "TooManyEdits": (), "NothingToUndo": (), "BadEdits": (), "BadEdit": ("index",), "Rejected": ("index",),
    "BadBits": ("value",), "BadNumber": ("value",), "TooWide": ("bits",), "Wrong": ("power", "number"),
}
LOOKUP_ERRORS = {
    "NoIndex": ("index",), "NoCode": ("code",), "NoFormat": ("name",), "NoRow": ("value",), "NoGuard": ("power",),
    "NoVersion": ("value",),
}
FIELDS = {**NUMBER_ERRORS, **LOOKUP_ERRORS}


def passed_values():
    return [None, True, 0, -10 ** 1400, "a" * 50, (1, (2, [3])), [1, {"a": [2]}], {"b": ()}]


class Errors(unittest.TestCase):
    def test_the_file_has_just_these_classes(self):
        found = {name for name, value in vars(errors).items() if isinstance(value, type)}
        self.assertEqual(found, {"NumberError", *FIELDS})

    def test_bases(self):
        self.assertEqual(errors.NumberError.__bases__, (ValueError,))
        for name in NUMBER_ERRORS:
            self.assertTrue(issubclass(getattr(errors, name), errors.NumberError), name)
        for name in LOOKUP_ERRORS:
            self.assertTrue(issubclass(getattr(errors, name), LookupError), name)
            self.assertFalse(issubclass(getattr(errors, name), ValueError), name)

    def test_no_class_derives_from_another_one(self):
        for name in FIELDS:
            for other in FIELDS:
                if name != other:
                    self.assertFalse(issubclass(getattr(errors, name), getattr(errors, other)), (name, other))

    def test_fields_are_the_very_values_that_were_passed(self):
        for name, fields in FIELDS.items():
            for value in passed_values():
                given = [value, [value, 2]][:len(fields)]
                raised = getattr(errors, name)(*given)
                self.assertEqual(list(vars(raised)), list(fields), name)
                for field, item in zip(fields, given):
                    self.assertIs(getattr(raised, field), item, name)

    def test_wrong_takes_the_power_first(self):
        raised = errors.Wrong(-1, 4)
        self.assertEqual((raised.power, raised.number), (-1, 4))

    def test_a_missing_or_further_value_is_refused(self):
        for name, fields in FIELDS.items():
            if fields:
                with self.assertRaises(TypeError):
                    getattr(errors, name)(*[1] * (len(fields) - 1))
                with self.assertRaises(TypeError):
                    getattr(errors, name)(*[1] * (len(fields) + 1))

    def test_they_are_raised_and_caught_by_name(self):
        for name, fields in FIELDS.items():
            error = getattr(errors, name)
            with self.assertRaises(error) as caught:
                raise error(*[5] * len(fields))
            self.assertIs(type(caught.exception), error)


if __name__ == "__main__":
    unittest.main()
