"""Points 3 and 4: the error classes and their attributes."""

import unittest

from helpers import any_values, nested, raises, triangle
from quietpairs import errors

ATTRIBUTES = {
    "BadPeople": ("index",), "BadWishes": ("person",), "BadName": ("value",), "BadPlaces": ("person",),
    "BadNames": ("person",), "BadLot": ("index",), "BadPlace": ("value",), "NoPerson": ("value",),
    "NotOpen": ("one", "other"), "TooMany": ("most",), "NoDealing": (), "NoHalf": (), "NoCalm": (),
    "NotCalm": ("index",), "NoStatement": (), "BadWeights": ("name",), "UnlikePeople": (), "BadMost": ("value",),
    "NoGroup": (), "NoUndo": (), "NoText": ("line",),
}


class Errors(unittest.TestCase):

    def test_base(self):
        self.assertEqual(errors.QuietError.__bases__, (ValueError,))

    def test_each_class_stands_directly_under_the_base(self):
        for name in ATTRIBUTES:
            with self.subTest(name):
                self.assertEqual(getattr(errors, name).__bases__, (errors.QuietError,))
                self.assertEqual(getattr(errors, name).__module__, "quietpairs.errors")

    def test_there_are_no_others(self):
        found = {name for name, value in vars(errors).items() if isinstance(value, type)}
        self.assertEqual(found, set(ATTRIBUTES) | {"QuietError"})

    def test_attributes_in_this_order(self):
        for name, attributes in ATTRIBUTES.items():
            with self.subTest(name):
                passed = ["ann", "bob"][:len(attributes)]
                want = dict(zip(attributes, passed))
                self.assertEqual(vars(getattr(errors, name)(*passed)), want)
                self.assertEqual(vars(getattr(errors, name)(**want)), want)

    def test_there_are_words(self):
        for name, attributes in ATTRIBUTES.items():
            with self.subTest(name):
                self.assertIn(" ", str(getattr(errors, name)(*["ann", "bob"][:len(attributes)])))

    def test_value_may_be_any_value(self):
        for name in ("BadName", "BadPlace", "NoPerson", "BadMost"):
            for value in any_values():
                with self.subTest(name, value=value):
                    kept = getattr(errors, name)(value).value
                    self.assertEqual(kept, value)
                    self.assertIs(kept.__class__, value.__class__)

    def test_each_value_is_a_copy(self):
        for name in ("BadName", "BadPlace", "NoPerson", "BadMost"):
            with self.subTest(name):
                value = [["ann"]]
                caught = getattr(errors, name)(value)
                value[0].append("bob")
                self.assertEqual(caught.value, [["ann"]])

    def test_value_is_kept_as_it_was(self):
        value = {"ann": [1, ([2],)]}
        with self.assertRaises(errors.NoPerson) as caught:
            triangle().wishes(value)
        value["ann"][1][0].append(3)
        value["bob"] = 1
        self.assertEqual(caught.exception.value, {"ann": [1, ([2],)]})

    def test_deep_values(self):
        for kind in ("list", "tuple", "dict"):
            with self.subTest(kind):
                raises(self, errors.NoPerson, {"value": nested(kind, 90)}, triangle().wishes, nested(kind, 90))


if __name__ == "__main__":
    unittest.main()
