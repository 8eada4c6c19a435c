"""The interface: what stands in which file, under which names, with which arguments."""

import inspect
import unittest

from helpers import square, triangle
from quietpairs import cheapest, dealings, edits, following, groups, halves, leaving, live, pairs, texts
from quietpairs.cheapest import Scale
from quietpairs.groups import Group
from quietpairs.live import Round

GROUP = {
    "people": "(self)", "wishes": "(self, a)", "open_to": "(self, a)", "rank": "(self, a, b)", "pairs": "(self)",
    "with_wishes": "(self, a, wishes)", "without": "(self, a)", "joined": "(self, name, wishes, *, places)",
    "renamed": "(self, names)", "inside": "(self, lot)", "outside": "(self, lot)", "exchanged": "(self, a, k)",
    "struck": "(self, a, b)", "__init__": "(self, people, wishes)",
}
SCALE = {
    "__init__": "(self, weights, *, rest=1)", "weight": "(self, name)", "__call__": "(self, group, x)",
    "__add__": "(self, other)", "__eq__": "(self, other)",
}
ROUND = {
    "__init__": "(self, group)", "wish": "(self, a, wishes)", "come": "(self, name, wishes, *, places)",
    "leave": "(self, a)", "become": "(self, value)", "undo": "(self)", "half": "(self)", "odd": "(self)",
    "moved": "(self)", "tried": "(self, deed)", "__len__": "(self)",
}
CLASSES = {Group: (groups, GROUP), Scale: (cheapest, SCALE), Round: (live, ROUND)}
OPERATORS = ("__len__", "__contains__", "__getitem__", "__iter__", "__eq__")
FUNCTIONS = {
    dealings: {
        "is_dealing": "(group, x)", "is_calm": "(group, x)", "quarrels": "(group, x)", "as_pairs": "(group, x)",
        "from_pairs": "(group, pairs)", "dealing": "(group)", "calm": "(group)", "count": "(group)",
        "first": "(group)", "each_calm": "(group)",
    },
    halves: {
        "fault": "(group, x)", "is_half": "(group, x)", "half": "(group)", "rings": "(group, x)",
        "paired": "(group, x)", "half_of": "(group, x)", "lots": "(group)", "odd": "(group)", "alone": "(group)",
    },
    leaving: {
        "change": "(group, a)", "changes": "(group)", "fewest": "(group)", "leavers": "(group)",
        "may_leave": "(group, lot)", "rest_dealing": "(group, lot)", "most_pairs": "(group)",
    },
    pairs: {
        "possible": "(group)", "sure": "(group)", "with_pair": "(group, a, b)", "may": "(group, a)",
        "best": "(group, a)", "worst": "(group, a)", "both": "(group, a, x, b, y)", "table": "(group)",
        "by_table": "(group, x)", "middle": "(group, one, two, three)",
    },
    following: {
        "holds": "(group, x, statement)", "tells": "(group, one_statement, other_statement)",
        "follows": "(group, statement)", "book": "(group)", "agrees": "(group, x)",
    },
    cheapest: {
        "total": "(group, x)", "worst_rank": "(group, x)", "least_total": "(group, scale)", "least_worst": "(group)",
    },
    edits: {
        "alike": "(one, other)", "parted": "(one, other)", "harmless": "(group, a, k)", "needless": "(group, a, b)",
        "core": "(group)", "mend": "(group, *, most=2)",
    },
    texts: {
        "group_text": "(group)", "read_group": "(text)", "dealing_text": "(group, x)", "read_dealing": "(group, text)",
    },
}


class Interface(unittest.TestCase):

    def test_classes_are_defined_in_their_file(self):
        for kind, (module, _) in CLASSES.items():
            self.assertEqual([kind.__module__, getattr(module, kind.__name__)], [module.__name__, kind])
            self.assertEqual(kind.__bases__, (object,))

    def test_methods_stand_in_the_class(self):
        for kind, (_, methods) in CLASSES.items():
            for name, arguments in methods.items():
                with self.subTest(name):
                    self.assertEqual(str(inspect.signature(vars(kind)[name])), arguments)
        for name in OPERATORS:
            self.assertIn(name, vars(Group))
        self.assertIsInstance(vars(Round)["group"], property)

    def test_functions_are_defined_in_their_file(self):
        for module, functions in FUNCTIONS.items():
            for name, arguments in functions.items():
                with self.subTest(name):
                    function = getattr(module, name)
                    self.assertTrue(inspect.isfunction(function))
                    self.assertEqual(function.__module__, module.__name__)
                    self.assertEqual(str(inspect.signature(function)), arguments)
        self.assertTrue(inspect.isgeneratorfunction(dealings.each_calm))

    def test_by_keyword(self):
        group = Group(people=("ann", "bob"), wishes={"ann": ["bob"], "bob": ["ann"]})
        self.assertEqual([group.rank(a="ann", b="bob"), group.open_to(a="ann")], [0, ["bob"]])
        self.assertEqual(len(group.joined(name="cat", wishes=["ann"], places={})), 3)
        one, other = ("least", "ann", "bob"), ("most", "bob", "ann")
        told = following.tells(group=group, one_statement=one, other_statement=other)
        x = pairs.both(group=group, a="ann", x="bob", b="bob", y="ann")
        self.assertEqual([told, pairs.middle(group=group, one=x, two=x, three=x)], [True, x])
        scale = Scale(weights={"ann": 2}, rest=3)
        self.assertEqual([scale(group=group, x=x), cheapest.least_total(group=group, scale=scale)], [0, (0, x)])
        self.assertEqual([edits.alike(one=group, other=group), edits.parted(one=group, other=group)], [True, None])
        self.assertEqual([edits.needless(group=group, a="ann", b="bob"), edits.mend(group=group, most=0)], [False, []])
        self.assertIs(edits.harmless(group=square(), a="ann", k=0), False)
        self.assertEqual(texts.read_dealing(group=group, text=texts.dealing_text(group=group, x=x)), x)
        self.assertTrue(texts.read_group(text=texts.group_text(group=group)) == group)

    def test_kinds_of_values(self):
        group, x = square(), {"ann": "bob", "bob": "ann", "cat": "dan", "dan": "cat"}
        told = [halves.fault(group, {}), halves.half(group), halves.rings(group, x), halves.paired(group, x),
                halves.half_of(group, x), halves.lots(group), halves.odd(group), halves.alone(group),
                leaving.change(group, "ann"), leaving.changes(group), leaving.fewest(group), leaving.leavers(group),
                leaving.rest_dealing(group, []), leaving.most_pairs(group), pairs.possible(group), pairs.sure(group),
                pairs.may(group, "ann"), pairs.best(group, "ann"), pairs.table(group), pairs.middle(group, x, x, x),
                following.follows(group, ("least", "ann", "bob")), following.book(group)]
        self.assertEqual([value.__class__ for value in told], [
            tuple, dict, list, dict, dict, list, list, list, tuple, dict, int, list, dict, tuple, list, list,
            list, str, dict, dict, list, list])
        self.assertEqual({item.__class__ for item in halves.rings(group, x) + following.book(group)}, {tuple})

    def test_kinds_of_the_later_values(self):
        group, x = square(), {"ann": "bob", "bob": "ann", "cat": "dan", "dan": "cat"}
        told = [Scale({})(group, x), Scale({}).weight("ann"), Scale({}) + Scale({}), Scale({}) == Scale({}),
                cheapest.total(group, x), cheapest.worst_rank(group, x), cheapest.least_total(group, Scale({})),
                cheapest.least_worst(group), edits.alike(group, group), edits.harmless(group, "ann", 0),
                edits.needless(group, "ann", "bob"), edits.parted(group, group.struck("ann", "bob")), edits.core(group),
                edits.mend(group), Round(group).group, Round(group).half(), Round(group).odd(), Round(group).moved(),
                len(Round(group)), texts.group_text(group), texts.dealing_text(group, x),
                texts.read_group("people\n"), texts.read_dealing(group, "ann\nbob\ncat\ndan\n")]
        self.assertEqual([value.__class__ for value in told], [
            int, int, Scale, bool, int, int, tuple, tuple, bool, bool, bool, dict, Group, list, Group, dict, list,
            tuple, int, str, str, Group, dict])
        self.assertEqual([value.__class__ for value in told[6] + told[7] + told[17]], [int, dict, int, dict, list, list])
        self.assertEqual([edits.mend(triangle())[0].__class__, edits.parted(group, group)], [tuple, None])

    def test_places_by_keyword_alone(self):
        with self.assertRaises(TypeError):
            triangle().joined("dan", [], {})


if __name__ == "__main__":
    unittest.main()
