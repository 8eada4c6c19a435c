"""Points 1, 2, 3, 5, 7, 8 and 9: groups and what they tell."""

import unittest

from helpers import NAMES, any_values, everybody, raises, random_groups, square, triangle, uneven
from quietpairs.errors import BadPeople, BadWishes, NoPerson, NotOpen
from quietpairs.groups import Group


class Making(unittest.TestCase):

    def test_empty_group(self):
        group = Group((), {})
        self.assertEqual([group.people(), len(group), group.pairs(), list(group)], [[], 0, [], []])

    def test_one_person(self):
        group = Group(("a",), {"a": []})
        self.assertEqual([group.people(), group.wishes("a"), group.open_to("a")], [["a"], [], []])

    def test_sixteen_people(self):
        self.assertEqual(everybody(16).people(), list(NAMES))

    def test_seventeen_people(self):
        people = NAMES + ("zoe",)
        raises(self, BadPeople, {"index": -1}, Group, people, {a: [] for a in people})

    def test_seventeen_items_come_before_a_bad_item(self):
        raises(self, BadPeople, {"index": -1}, Group, (1,) + NAMES, {})

    def test_people_of_another_kind(self):
        for people in any_values() + [0, "ann"]:
            if not isinstance(people, tuple):
                with self.subTest(people=people):
                    raises(self, BadPeople, {"index": -1}, Group, people, {})

    def test_names(self):
        for name in ("a", "z", "abcdefgh", "zzzzzzzz"):
            self.assertEqual(Group((name,), {name: []}).people(), [name])

    def test_items_that_are_no_names(self):
        for item in any_values() + [0, 1, "a1", "a b", "a-", "ab\n", "`", "{", "aB"]:
            with self.subTest(item=item):
                raises(self, BadPeople, {"index": 0}, Group, (item,), {})
                raises(self, BadPeople, {"index": 1}, Group, ("eve", item), {})

    def test_least_index_of_a_bad_item(self):
        raises(self, BadPeople, {"index": 2}, Group, ("bob", "ann", "bob", 1, "ann"), {})
        raises(self, BadPeople, {"index": 1}, Group, ("bob", 1, "bob", 1), {})
        raises(self, BadPeople, {"index": 15}, Group, NAMES[:15] + ("ann",), {})

    def test_wishes_of_another_kind(self):
        for wishes in any_values() + [[], "ann"]:
            with self.subTest(wishes=wishes):
                raises(self, BadWishes, {"person": ""}, Group, ("bob", "ann"), wishes)

    def test_keys_that_are_not_the_people(self):
        people = ("bob", "ann")
        for wishes in ({"ann": []}, {"ann": [], "bob": [], "cat": []}, {"ann": [], "cat": []}, {"ann": [], 1: []},
                       {"ann": [], None: []}, {"ann": [], ("bob",): []}):
            with self.subTest(wishes=wishes):
                raises(self, BadWishes, {"person": ""}, Group, people, wishes)
        raises(self, BadWishes, {"person": ""}, Group, (), {"ann": []})
        raises(self, BadWishes, {"person": ""}, Group, ("ann",), {})

    def test_rows_of_another_kind(self):
        for row in any_values() + [0, 1, "bob", ("bob",), {"bob": 1}]:
            if row not in ([], ["ann"]):
                with self.subTest(row=row):
                    raises(self, BadWishes, {"person": "bob"}, Group, ("bob", "ann"), {"bob": row, "ann": []})

    def test_items_in_rows(self):
        people = ("ann", "bob", "cat")
        for item in any_values() + ["ann", "bob", "dan", 0, 1]:
            with self.subTest(item=item):
                wishes = {"ann": ["bob", item], "bob": [], "cat": []}
                raises(self, BadWishes, {"person": "ann"}, Group, people, wishes)

    def test_least_person_with_a_bad_row(self):
        wishes = {"dan": 1, "cat": ["cat"], "ann": ["bob"], "bob": ["ann", "ann"]}
        raises(self, BadWishes, {"person": "bob"}, Group, ("dan", "cat", "ann", "bob"), wishes)

    def test_people_are_checked_before_wishes(self):
        raises(self, BadPeople, {"index": -1}, Group, ["ann"], 3)
        raises(self, BadPeople, {"index": 1}, Group, ("ann", "ann"), {"ann": 3})

    def test_keys_in_another_order(self):
        turned = Group(("ann", "bob", "cat"), {"cat": ["ann", "bob"], "bob": ["cat", "ann"], "ann": ["bob", "cat"]})
        self.assertTrue(turned == triangle())
        self.assertEqual(turned.pairs(), triangle().pairs())

    def test_arguments_are_not_modified(self):
        people, wishes = ("bob", "ann"), {"bob": ["ann"], "ann": []}
        Group(people, wishes)
        self.assertEqual([people, wishes], [("bob", "ann"), {"bob": ["ann"], "ann": []}])

    def test_arguments_may_change_afterwards(self):
        wishes = {"ann": ["bob"], "bob": ["ann"]}
        group = Group(("ann", "bob"), wishes)
        wishes["ann"].append("ann")
        wishes["bob"] = []
        del wishes["ann"]
        self.assertEqual([group.wishes("ann"), group.wishes("bob"), group.pairs()],
                         [["bob"], ["ann"], [("ann", "bob")]])


class Telling(unittest.TestCase):

    def test_party_order(self):
        self.assertEqual(uneven().people(), ["dan", "bob", "ann", "cat"])
        self.assertEqual(list(uneven()), ["dan", "bob", "ann", "cat"])
        self.assertEqual([a for a in uneven()], ["dan", "bob", "ann", "cat"])

    def test_len(self):
        self.assertEqual([len(everybody(many)) for many in range(17)], list(range(17)))

    def test_wishes_that_are_not_answered_stay(self):
        self.assertEqual(uneven().wishes("ann"), ["cat", "bob", "dan"])
        self.assertEqual(uneven().wishes("cat"), ["ann", "dan", "bob"])

    def test_open_to(self):
        group = uneven()
        rows = {"dan": ["ann", "bob", "cat"], "bob": ["dan"], "ann": ["cat", "dan"], "cat": ["ann", "dan"]}
        for a, row in rows.items():
            self.assertEqual(group.open_to(a), row)
            self.assertEqual(group[a], row)

    def test_rank_counts_open_people_alone(self):
        group = uneven()
        self.assertEqual([group.rank("ann", "cat"), group.rank("ann", "dan"), group.rank("dan", "cat")], [0, 1, 2])

    def test_pairs_are_sorted(self):
        self.assertEqual(uneven().pairs(), [("ann", "cat"), ("ann", "dan"), ("bob", "dan"), ("cat", "dan")])

    def test_rank_of_people_who_are_not_open(self):
        group = uneven()
        raises(self, NotOpen, {"one": "ann", "other": "bob"}, group.rank, "ann", "bob")
        raises(self, NotOpen, {"one": "bob", "other": "ann"}, group.rank, "bob", "ann")
        raises(self, NotOpen, {"one": "ann", "other": "ann"}, group.rank, "ann", "ann")

    def test_nobody(self):
        group = triangle()
        for value in any_values() + [0, 1, "dan", "an"]:
            with self.subTest(value=value):
                for method in (group.wishes, group.open_to, group.__getitem__):
                    raises(self, NoPerson, {"value": value}, method, value)
                raises(self, NoPerson, {"value": value}, group.rank, value, "ann")
                raises(self, NoPerson, {"value": value}, group.rank, "ann", value)
                raises(self, NoPerson, {"value": value}, group.rank, value, 7)

    def test_nobody_in_the_empty_group(self):
        raises(self, NoPerson, {"value": "ann"}, Group((), {}).wishes, "ann")

    def test_persons_in_a_group(self):
        group = uneven()
        for a in ("ann", "bob", "cat", "dan"):
            self.assertIs(a in group, True)
        for value in any_values() + ["eve", 0, ["ann", "dan"], {"ann": "dan"}]:
            with self.subTest(value=value):
                self.assertIs(value in group, False)

    def test_open_pairs_in_a_group(self):
        group = uneven()
        for a in group:
            for b in group:
                want = b in group.open_to(a)
                self.assertIs((a, b) in group, want)
                self.assertIs((b, a) in group, want)
        for value in any_values():
            with self.subTest(value=value):
                self.assertIs((value, "ann") in group, False)
                self.assertIs(("ann", value) in group, False)
        self.assertIs(("ann", "cat", "dan") in group, False)

    def test_equal_groups(self):
        self.assertTrue(triangle() == triangle())
        self.assertFalse(triangle() != triangle())
        self.assertTrue(Group((), {}) == Group((), {}))

    def test_unequal_groups(self):
        wishes = {"ann": ["bob"], "bob": ["ann"]}
        self.assertFalse(Group(("ann", "bob"), wishes) == Group(("bob", "ann"), wishes))
        self.assertFalse(triangle() == triangle().with_wishes("ann", ["cat", "bob"]))
        self.assertFalse(triangle() == square())
        # A wish that is not answered tells groups apart, too.
        self.assertFalse(uneven() == uneven().with_wishes("ann", ["cat", "dan"]))

    def test_lists_that_were_returned_may_change(self):
        group = triangle()
        for row in (group.people(), group.wishes("ann"), group.open_to("ann"), group["ann"], group.pairs()):
            row.reverse()
            row.append("zed")
        self.assertTrue(group == triangle())
        self.assertEqual([group.open_to("ann"), group.rank("ann", "cat")], [["bob", "cat"], 1])
        self.assertEqual(group.pairs(), [("ann", "bob"), ("ann", "cat"), ("bob", "cat")])

    def test_against_the_wishes(self):
        for group in random_groups(7, 60, 0, 16):
            for a in group:
                row = [b for b in group.wishes(a) if a in group.wishes(b)]
                self.assertEqual(group.open_to(a), row)
                self.assertEqual([group.rank(a, b) for b in row], list(range(len(row))))
            pairs = [(a, b) for a in group for b in group.wishes(a) if a < b and a in group.wishes(b)]
            self.assertEqual(group.pairs(), sorted(pairs))


if __name__ == "__main__":
    unittest.main()
