"""[2], [19]: the error classes."""

import unittest

from orderrings import errors

LOOKUP = {"NoGroup": ("group",), "NoPerson": ("person",), "NoNumber": ("number",), "NoTerm": ("place",),
          "NothingDone": ()}
WORTH = {"Known": ("name",), "CanNot": (), "Unfit": (), "BadText": (), "BadLine": ("number",)}
VALUES = ("a", 0, -10 ** 30, None, ("a", ("b",)), ["a"])


class Errors(unittest.TestCase):
    def each(self):
        for base, classes in ((LookupError, LOOKUP), (ValueError, WORTH)):
            for name, values in classes.items():
                with self.subTest(name=name):
                    yield base, getattr(errors, name), values

    def test_directly_under_their_own_class_and_no_other(self):
        for base, error, _ in self.each():
            self.assertEqual(error.__bases__, (base,))
            self.assertEqual(error.__module__, "orderrings.errors")

    def test_no_other_classes(self):
        classes = [name for name, value in vars(errors).items() if isinstance(value, type)]
        self.assertEqual(sorted(classes), sorted(list(LOOKUP) + list(WORTH)))

    def test_values_by_position_and_by_name(self):
        for _, error, names in self.each():
            for value in VALUES:
                by_position = error(*[value for _ in names])
                by_name = error(**{name: value for name in names})
                for made in (by_position, by_name):
                    self.assertEqual(vars(made), {name: value for name in names})
                    for name in names:
                        self.assertIs(getattr(made, name), value)

    def test_raised_and_caught(self):
        for base, error, names in self.each():
            with self.assertRaises(base) as caught:
                raise error(*["x" for _ in names])
            self.assertIs(type(caught.exception), error)


if __name__ == "__main__":
    unittest.main()
