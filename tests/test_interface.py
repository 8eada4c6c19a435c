"""The interface: what stands in which file, under which names, with which arguments."""

import inspect
import unittest

from helpers import triangle
from quietpairs import dealings, groups
from quietpairs.groups import Group

METHODS = {
    "people": "(self)", "wishes": "(self, a)", "open_to": "(self, a)", "rank": "(self, a, b)", "pairs": "(self)",
    "with_wishes": "(self, a, wishes)", "without": "(self, a)", "joined": "(self, name, wishes, *, places)",
    "renamed": "(self, names)", "inside": "(self, lot)", "outside": "(self, lot)", "exchanged": "(self, a, k)",
    "struck": "(self, a, b)", "__init__": "(self, people, wishes)",
}
OPERATORS = ("__len__", "__contains__", "__getitem__", "__iter__", "__eq__")
DEALINGS = {
    "is_dealing": "(group, x)", "is_calm": "(group, x)", "quarrels": "(group, x)", "as_pairs": "(group, x)",
    "from_pairs": "(group, pairs)", "dealing": "(group)", "calm": "(group)", "count": "(group)", "first": "(group)",
    "each_calm": "(group)",
}


class Interface(unittest.TestCase):

    def test_group_is_defined_in_its_file(self):
        self.assertEqual([Group.__module__, groups.Group], ["quietpairs.groups", Group])
        self.assertEqual(Group.__bases__, (object,))

    def test_methods_stand_in_the_class(self):
        for name, arguments in METHODS.items():
            with self.subTest(name):
                self.assertEqual(str(inspect.signature(vars(Group)[name])), arguments)
        for name in OPERATORS:
            self.assertIn(name, vars(Group))

    def test_functions_are_defined_in_their_file(self):
        for name, arguments in DEALINGS.items():
            with self.subTest(name):
                function = getattr(dealings, name)
                self.assertEqual(function.__module__, "quietpairs.dealings")
                self.assertEqual(str(inspect.signature(function)), arguments)
        self.assertTrue(inspect.isgeneratorfunction(dealings.each_calm))

    def test_by_keyword(self):
        group = Group(people=("ann", "bob"), wishes={"ann": ["bob"], "bob": ["ann"]})
        self.assertEqual([group.rank(a="ann", b="bob"), group.open_to(a="ann")], [0, ["bob"]])
        self.assertEqual(len(group.joined(name="cat", wishes=["ann"], places={})), 3)

    def test_places_by_keyword_alone(self):
        with self.assertRaises(TypeError):
            triangle().joined("dan", [], {})


if __name__ == "__main__":
    unittest.main()
