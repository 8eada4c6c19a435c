"""The interface: what stands in which file, under which names, with which arguments."""

import inspect
import unittest

from helpers import square, triangle
from quietpairs import dealings, following, groups, halves, leaving, pairs
from quietpairs.groups import Group

METHODS = {
    "people": "(self)", "wishes": "(self, a)", "open_to": "(self, a)", "rank": "(self, a, b)", "pairs": "(self)",
    "with_wishes": "(self, a, wishes)", "without": "(self, a)", "joined": "(self, name, wishes, *, places)",
    "renamed": "(self, names)", "inside": "(self, lot)", "outside": "(self, lot)", "exchanged": "(self, a, k)",
    "struck": "(self, a, b)", "__init__": "(self, people, wishes)",
}
OPERATORS = ("__len__", "__contains__", "__getitem__", "__iter__", "__eq__")
FUNCTIONS = {
    dealings: {
        "is_dealing": "(group, x)", "is_calm": "(group, x)", "quarrels": "(group, x)", "as_pairs": "(group, x)",
        "from_pairs": "(group, pairs)", "dealing": "(group)", "calm": "(group)", "count": "(group)",
        "first": "(group)", "each_calm": "(group)",
    },
    halves: {
        "fault": "(group, x)", "is_half": "(group, x)", "half": "(group)", "rings": "(group, x)",
        "paired": "(group, x)", "half_of": "(group, x)", "lots": "(group)", "odd": "(group)", "alone": "(group)",
    },
    leaving: {
        "change": "(group, a)", "changes": "(group)", "fewest": "(group)", "leavers": "(group)",
        "may_leave": "(group, lot)", "rest_dealing": "(group, lot)", "most_pairs": "(group)",
    },
    pairs: {
        "possible": "(group)", "sure": "(group)", "with_pair": "(group, a, b)", "may": "(group, a)",
        "best": "(group, a)", "worst": "(group, a)", "both": "(group, a, x, b, y)", "table": "(group)",
        "by_table": "(group, x)", "middle": "(group, one, two, three)",
    },
    following: {
        "holds": "(group, x, statement)", "tells": "(group, one_statement, other_statement)",
        "follows": "(group, statement)", "book": "(group)", "agrees": "(group, x)",
    },
}


class Interface(unittest.TestCase):

    def test_group_is_defined_in_its_file(self):
        self.assertEqual([Group.__module__, groups.Group], ["quietpairs.groups", Group])
        self.assertEqual(Group.__bases__, (object,))

    def test_methods_stand_in_the_class(self):
        for name, arguments in METHODS.items():
            with self.subTest(name):
                self.assertEqual(str(inspect.signature(vars(Group)[name])), arguments)
        for name in OPERATORS:
            self.assertIn(name, vars(Group))

    def test_functions_are_defined_in_their_file(self):
        for module, functions in FUNCTIONS.items():
            for name, arguments in functions.items():
                with self.subTest(name):
                    function = getattr(module, name)
                    self.assertTrue(inspect.isfunction(function))
                    self.assertEqual(function.__module__, module.__name__)
                    self.assertEqual(str(inspect.signature(function)), arguments)
        self.assertTrue(inspect.isgeneratorfunction(dealings.each_calm))

    def test_by_keyword(self):
        group = Group(people=("ann", "bob"), wishes={"ann": ["bob"], "bob": ["ann"]})
        self.assertEqual([group.rank(a="ann", b="bob"), group.open_to(a="ann")], [0, ["bob"]])
        self.assertEqual(len(group.joined(name="cat", wishes=["ann"], places={})), 3)
        one, other = ("least", "ann", "bob"), ("most", "bob", "ann")
        told = following.tells(group=group, one_statement=one, other_statement=other)
        x = pairs.both(group=group, a="ann", x="bob", b="bob", y="ann")
        self.assertEqual([told, pairs.middle(group=group, one=x, two=x, three=x)], [True, x])

    def test_kinds_of_values(self):
        group, x = square(), {"ann": "bob", "bob": "ann", "cat": "dan", "dan": "cat"}
        told = [halves.fault(group, {}), halves.half(group), halves.rings(group, x), halves.paired(group, x),
                halves.half_of(group, x), halves.lots(group), halves.odd(group), halves.alone(group),
                leaving.change(group, "ann"), leaving.changes(group), leaving.fewest(group), leaving.leavers(group),
                leaving.rest_dealing(group, []), leaving.most_pairs(group), pairs.possible(group), pairs.sure(group),
                pairs.may(group, "ann"), pairs.best(group, "ann"), pairs.table(group), pairs.middle(group, x, x, x),
                following.follows(group, ("least", "ann", "bob")), following.book(group)]
        self.assertEqual([value.__class__ for value in told], [
            tuple, dict, list, dict, dict, list, list, list, tuple, dict, int, list, dict, tuple, list, list,
            list, str, dict, dict, list, list])
        self.assertEqual({item.__class__ for item in halves.rings(group, x) + following.book(group)}, {tuple})

    def test_places_by_keyword_alone(self):
        with self.assertRaises(TypeError):
            triangle().joined("dan", [], {})


if __name__ == "__main__":
    unittest.main()
