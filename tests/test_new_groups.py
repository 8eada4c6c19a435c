"""Points 3, 4, 5 and 10: the methods that return a new group."""

import unittest

from helpers import NAMES, any_values, everybody, raises, square, triangle, uneven
from quietpairs.errors import BadLot, BadName, BadNames, BadPlace, BadPlaces, BadWishes, NoPerson, NotOpen, TooMany
from quietpairs.groups import Group


def rows(group):
    """All wishes of a group."""
    return {a: group.wishes(a) for a in group.people()}


class Wishes(unittest.TestCase):

    def test_with_wishes(self):
        group = uneven()
        other = group.with_wishes("bob", ["cat", "ann"])
        self.assertIsInstance(other, Group)
        self.assertEqual(other.people(), group.people())
        self.assertEqual(rows(other), {**rows(group), "bob": ["cat", "ann"]})
        self.assertEqual(other.open_to("bob"), ["cat", "ann"])
        self.assertEqual(rows(group.with_wishes("dan", []))["dan"], [])

    def test_bad_wishes(self):
        for wishes in any_values() + [("bob",), ["bob", "bob"], ["bob", "ann"], ["dan"], ["bob", 1], "bob"]:
            if wishes != []:
                with self.subTest(wishes=wishes):
                    raises(self, BadWishes, {"person": "ann"}, triangle().with_wishes, "ann", wishes)

    def test_without(self):
        group = uneven().without("ann")
        self.assertEqual(group.people(), ["dan", "bob", "cat"])
        self.assertEqual(rows(group), {"dan": ["bob", "cat"], "bob": ["dan"], "cat": ["dan", "bob"]})
        self.assertTrue(Group(("ann",), {"ann": []}).without("ann") == Group((), {}))

    def test_struck(self):
        group = uneven()
        other = group.struck("dan", "cat")
        self.assertEqual(rows(other), {**rows(group), "dan": ["ann", "bob"]})
        self.assertEqual([other.wishes("cat"), other.open_to("cat")], [["ann", "dan", "bob"], ["ann"]])
        self.assertEqual(rows(group.struck("cat", "dan")), {**rows(group), "cat": ["ann", "bob"]})

    def test_struck_not_open(self):
        raises(self, NotOpen, {"one": "ann", "other": "bob"}, uneven().struck, "ann", "bob")
        raises(self, NotOpen, {"one": "bob", "other": "ann"}, uneven().struck, "bob", "ann")
        raises(self, NotOpen, {"one": "cat", "other": "cat"}, uneven().struck, "cat", "cat")

    def test_exchanged(self):
        wishes = {"ann": ["eve", "bob", "dan", "cat"], "bob": ["ann"], "cat": ["ann"], "dan": [], "eve": ["ann"]}
        group = Group(("ann", "bob", "cat", "dan", "eve"), wishes)
        self.assertEqual(group.exchanged("ann", 0).wishes("ann"), ["bob", "eve", "dan", "cat"])
        # The two keep to their own places: who is not open stays between them.
        self.assertEqual(group.exchanged("ann", 1).wishes("ann"), ["eve", "cat", "dan", "bob"])
        self.assertEqual(group.exchanged("ann", 1).open_to("ann"), ["eve", "cat", "bob"])
        self.assertEqual(rows(group.exchanged("ann", 1)), {**wishes, "ann": ["eve", "cat", "dan", "bob"]})

    def test_bad_place(self):
        group = everybody(4)
        self.assertEqual(group.exchanged("ann", 1).wishes("ann"), ["bob", "dan", "cat"])
        for k in any_values() + [2, 3, "0", [0]]:
            with self.subTest(k=k):
                raises(self, BadPlace, {"value": k}, group.exchanged, "ann", k)
        raises(self, BadPlace, {"value": 0}, uneven().exchanged, "bob", 0)
        raises(self, BadPlace, {"value": 0}, Group(("ann",), {"ann": []}).exchanged, "ann", 0)
        # Four wishes of which two are answered have one place.
        raises(self, BadPlace, {"value": 1}, uneven().exchanged, "cat", 1)

    def test_nobody(self):
        group = triangle()
        for value in any_values() + [0, "dan"]:
            with self.subTest(value=value):
                raises(self, NoPerson, {"value": value}, group.with_wishes, value, 3)
                raises(self, NoPerson, {"value": value}, group.without, value)
                raises(self, NoPerson, {"value": value}, group.exchanged, value, None)
                raises(self, NoPerson, {"value": value}, group.struck, value, None)
                raises(self, NoPerson, {"value": value}, group.struck, "ann", value)


class Joining(unittest.TestCase):

    def test_first_last_and_not_at_all(self):
        group = triangle().joined("dan", ["cat", "ann"], places={"cat": 2, "ann": 0})
        self.assertEqual(group.people(), ["ann", "bob", "cat", "dan"])
        self.assertEqual(rows(group), {"ann": ["dan", "bob", "cat"], "bob": ["cat", "ann"],
                                       "cat": ["ann", "bob", "dan"], "dan": ["cat", "ann"]})
        self.assertEqual(group.open_to("dan"), ["cat", "ann"])

    def test_the_name_comes_last_in_party_order(self):
        group = Group(("zoe", "mia"), {"zoe": [], "mia": []}).joined("abe", [], places={})
        self.assertEqual(group.people(), ["zoe", "mia", "abe"])

    def test_into_the_empty_group(self):
        self.assertTrue(Group((), {}).joined("ann", [], places={}) == Group(("ann",), {"ann": []}))

    def test_bad_name(self):
        for name in any_values() + ["ann", "cat", 0]:
            with self.subTest(name=name):
                raises(self, BadName, {"value": name}, triangle().joined, name, 3, places=3)

    def test_bad_wishes(self):
        for wishes in any_values() + [("ann",), ["ann", "ann"], ["dan"], ["eve"], ["ann", None]]:
            if wishes not in ([], ["ann"]):
                with self.subTest(wishes=wishes):
                    raises(self, BadWishes, {"person": "dan"}, triangle().joined, "dan", wishes, places=3)

    def test_places_of_another_kind(self):
        for places in any_values() + [["ann"], {"dan": 0}, {"ann": 0, "eve": 0}, {"ann": 99, 1: 0}, {"bob": 0, (): 0}]:
            if not (isinstance(places, dict) and set(places) <= {"ann"}):
                with self.subTest(places=places):
                    raises(self, BadPlaces, {"person": ""}, triangle().joined, "dan", ["ann"], places=places)

    def test_places_that_do_not_fit(self):
        for place in any_values() + [3, "0", [0], -1]:
            with self.subTest(place=place):
                raises(self, BadPlaces, {"person": "bob"}, triangle().joined, "dan", [], places={"bob": place})

    def test_places_count_all_wishes(self):
        # Bob is in the wishes of ann, though not open.
        self.assertEqual(uneven().joined("eve", [], places={"ann": 3}).wishes("ann"), ["cat", "bob", "dan", "eve"])
        raises(self, BadPlaces, {"person": "ann"}, uneven().joined, "eve", [], places={"ann": 4})

    def test_least_person_with_a_bad_place(self):
        raises(self, BadPlaces, {"person": "ann"}, triangle().joined, "dan", [], places={"cat": 9, "ann": 3, "bob": 9})
        raises(self, BadPlaces, {"person": "cat"}, triangle().joined, "dan", [], places={"cat": True, "ann": 2})

    def test_too_many_comes_last(self):
        group = everybody(16)
        raises(self, TooMany, {"most": 16}, group.joined, "zoe", ["ann"], places={"ann": 0})
        raises(self, BadName, {"value": "ann"}, group.joined, "ann", [], places={})
        raises(self, BadWishes, {"person": "zoe"}, group.joined, "zoe", ["zoe"], places={})
        raises(self, BadPlaces, {"person": ""}, group.joined, "zoe", [], places=[])
        raises(self, BadPlaces, {"person": "pam"}, group.joined, "zoe", [], places={"pam": 16})
        self.assertEqual(len(everybody(15).joined("zoe", [], places={"ann": 14})), 16)


class Renaming(unittest.TestCase):

    def test_renamed(self):
        group = uneven().renamed({"ann": "bob", "bob": "ann", "cat": "zed", "dan": "dan"})
        self.assertEqual(group.people(), ["dan", "ann", "bob", "zed"])
        self.assertEqual(rows(group), {"dan": ["bob", "ann", "zed"], "ann": ["dan"],
                                       "bob": ["zed", "ann", "dan"], "zed": ["bob", "dan", "ann"]})
        self.assertTrue(Group((), {}).renamed({}) == Group((), {}))

    def test_keys_that_are_not_the_people(self):
        whole = {"ann": "a", "bob": "b", "cat": "c"}
        for names in any_values() + [{**whole, "dan": "d"}, {"ann": "a", "bob": "b"},
                                     {"ann": "a", "bob": "b", "dan": "c"}, {"ann": 1, "bob": 2, 3: 3}]:
            with self.subTest(names=names):
                raises(self, BadNames, {"person": ""}, triangle().renamed, names)

    def test_values_that_are_no_names(self):
        for name in any_values() + [0, "a1"]:
            with self.subTest(name=name):
                names = {"ann": "a", "bob": name, "cat": name}
                raises(self, BadNames, {"person": "bob"}, triangle().renamed, names)

    def test_the_greater_of_two_with_one_name(self):
        raises(self, BadNames, {"person": "cat"}, uneven().renamed, {"dan": 1, "cat": "x", "ann": "x", "bob": "b"})
        raises(self, BadNames, {"person": "dan"}, uneven().renamed, {"dan": "x", "cat": "c", "ann": "x", "bob": "b"})

    def test_names_may_change_afterwards(self):
        names = {"ann": "a", "bob": "b", "cat": "c"}
        group = triangle().renamed(names)
        names["ann"] = "z"
        self.assertEqual(group.people(), ["a", "b", "c"])


class Lots(unittest.TestCase):

    def test_inside(self):
        group = uneven().inside(["cat", "dan", "ann"])
        self.assertEqual(group.people(), ["dan", "ann", "cat"])
        self.assertEqual(rows(group), {"dan": ["ann", "cat"], "ann": ["cat", "dan"], "cat": ["ann", "dan"]})

    def test_outside(self):
        group = uneven().outside(["cat", "dan"])
        self.assertEqual(group.people(), ["bob", "ann"])
        self.assertEqual(rows(group), {"bob": [], "ann": ["bob"]})

    def test_nobody_and_everybody(self):
        people = ["cat", "ann", "bob", "dan"]
        self.assertTrue(uneven().inside([]) == Group((), {}))
        self.assertTrue(uneven().inside(people) == uneven())
        self.assertTrue(uneven().outside([]) == uneven())
        self.assertTrue(uneven().outside(people) == Group((), {}))

    def test_lots_of_another_kind(self):
        for lot in any_values() + [("ann",), "ann", {"ann": 1}, 0]:
            if not isinstance(lot, list):
                with self.subTest(lot=lot):
                    raises(self, BadLot, {"index": -1}, triangle().inside, lot)
                    raises(self, BadLot, {"index": -1}, triangle().outside, lot)

    def test_items_that_do_not_fit(self):
        for item in any_values() + ["dan", "bob", 0]:
            with self.subTest(item=item):
                raises(self, BadLot, {"index": 1}, triangle().inside, ["bob", item, item])
                raises(self, BadLot, {"index": 1}, triangle().outside, ["bob", item, item])
        raises(self, BadLot, {"index": 0}, triangle().inside, ["dan", "ann", "ann"])
        raises(self, BadLot, {"index": 2}, triangle().outside, ["ann", "bob", "ann", 1])
        raises(self, BadLot, {"index": 16}, everybody(16).inside, list(NAMES) + ["ann"])


class Unchanged(unittest.TestCase):

    def test_the_group_stays(self):
        group = square()
        group.with_wishes("ann", [])
        group.without("ann")
        group.joined("eve", ["ann"], places={"ann": 0})
        group.renamed({"ann": "a", "bob": "b", "cat": "c", "dan": "d"})
        group.inside(["ann"])
        group.outside(["ann"])
        group.exchanged("ann", 0)
        group.struck("ann", "bob")
        self.assertTrue(group == square())
        self.assertEqual([group.open_to(a) for a in group], [square().open_to(a) for a in square()])

    def test_arguments_may_change_afterwards(self):
        wishes, more, places, lot = ["cat"], ["ann"], {"ann": 0}, ["ann", "bob"]
        made = [triangle().with_wishes("ann", wishes), triangle().joined("dan", more, places=places),
                triangle().inside(lot), triangle().outside(lot)]
        self.assertEqual([wishes, more, places, lot], [["cat"], ["ann"], {"ann": 0}, ["ann", "bob"]])
        before = [(group.people(), rows(group), group.pairs()) for group in made]
        wishes.append("bob")
        more.append("bob")
        places["bob"] = 0
        lot.pop()
        self.assertEqual([(group.people(), rows(group), group.pairs()) for group in made], before)

    def test_a_call_that_raises_changes_nothing(self):
        group, wishes, places = triangle(), ["ann"], {"ann": 0, "bob": 7}
        raises(self, BadPlaces, {"person": "bob"}, group.joined, "dan", wishes, places=places)
        self.assertEqual([wishes, places], [["ann"], {"ann": 0, "bob": 7}])
        self.assertTrue(group == triangle())


if __name__ == "__main__":
    unittest.main()
