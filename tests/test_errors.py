"""oftenasked/errors.py: the base class, its 24 direct subclasses, their fields."""

import unittest

from oftenasked import errors

PLAIN = ["BadService", "BadRow", "Unlike", "BadLot", "BadWindow", "BadHistory", "NoAsk", "NotBorne", "Same",
         "BadClerk", "Shared", "BadLetters", "NotText", "BadAsks", "BadAnswer", "NoStand", "NoSuch", "NothingDone"]
FIELDS = {"TooMany": "most", "InvalidText": "place", "Twice": "name", "Lacking": "name", "Unknown": "name",
          "TooLong": "most"}


class Errors(unittest.TestCase):
    def test_the_base_is_a_value_error(self):
        self.assertEqual(errors.ServiceError.__bases__, (ValueError,))

    def test_there_are_24_direct_subclasses_and_no_others(self):
        kinds = {name for name, value in vars(errors).items() if isinstance(value, type)}
        self.assertEqual(kinds, {"ServiceError", *PLAIN, *FIELDS})
        self.assertEqual(len(kinds), 25)
        for name in [*PLAIN, *FIELDS]:
            self.assertEqual(getattr(errors, name).__bases__, (errors.ServiceError,), name)

    def test_those_without_fields_are_made_of_nothing(self):
        for name in PLAIN:
            with self.assertRaises(errors.ServiceError) as caught:
                raise getattr(errors, name)()
            self.assertEqual(vars(caught.exception), {}, name)

    def test_fields_are_set_on_each_error(self):
        for name, field in FIELDS.items():
            for value in (60, 0, "word"):
                with self.assertRaises(ValueError) as caught:
                    raise getattr(errors, name)(value)
                self.assertEqual(vars(caught.exception), {field: value}, name)

    def test_fields_are_not_left_out(self):
        for name in FIELDS:
            with self.assertRaises(TypeError):
                getattr(errors, name)()

    def test_the_classes_are_defined_in_this_file(self):
        for name in ["ServiceError", *PLAIN, *FIELDS]:
            self.assertEqual(getattr(errors, name).__module__, "oftenasked.errors")


if __name__ == "__main__":
    unittest.main()
