"""Points 3, 5, 11 and 12: dealings, quarrels, and dealings written as pairs."""

import unittest

from helpers import any_values, bad_dealings, matchings, plain_dealings, plain_pairs, plain_quarrels, raises
from helpers import random_groups, square, triangle, uneven
from quietpairs.dealings import as_pairs, from_pairs, is_calm, is_dealing, quarrels
from quietpairs.errors import NoDealing
from quietpairs.groups import Group

EMPTY = Group((), {})


class IsDealing(unittest.TestCase):

    def test_dealings(self):
        for x in plain_dealings(triangle()):
            self.assertIs(is_dealing(triangle(), x), True)
        self.assertIs(is_dealing(triangle(), {"cat": None, "bob": "ann", "ann": "bob"}), True)
        self.assertIs(is_dealing(EMPTY, {}), True)

    def test_any_value(self):
        for x in any_values() + bad_dealings():
            with self.subTest(x=x):
                self.assertIs(is_dealing(triangle(), x), False)
                self.assertIs(is_calm(triangle(), x), False)
                raises(self, NoDealing, {}, quarrels, triangle(), x)
                raises(self, NoDealing, {}, as_pairs, triangle(), x)
                if x != {}:
                    self.assertIs(is_dealing(EMPTY, x), False)

    def test_any_value_of_a_person(self):
        for value in any_values() + [0, "cat", "dan"]:
            if value is not None:
                with self.subTest(value=value):
                    self.assertIs(is_dealing(triangle(), {"ann": value, "bob": None, "cat": None}), False)
                    self.assertIs(is_dealing(triangle(), {"ann": "bob", "bob": value, "cat": None}), False)

    def test_partners_are_open(self):
        self.assertIs(is_dealing(uneven(), {"ann": "bob", "bob": "ann", "cat": None, "dan": None}), False)
        self.assertIs(is_dealing(uneven(), {"ann": "dan", "dan": "ann", "cat": None, "bob": None}), True)

    def test_against_all_matchings(self):
        for group in random_groups(11, 30, 0, 6):
            dealings = plain_dealings(group)
            for x in matchings(group.people()):
                self.assertIs(is_dealing(group, x), x in dealings)


class Quarrels(unittest.TestCase):

    def test_sorted(self):
        alone = {"ann": None, "bob": None, "cat": None, "dan": None}
        self.assertEqual(quarrels(uneven(), alone), uneven().pairs())
        self.assertEqual(quarrels(EMPTY, {}), [])

    def test_both_must_want_it(self):
        x = {"ann": "dan", "bob": "cat", "cat": "bob", "dan": "ann"}
        self.assertEqual(quarrels(square(), x), [])
        self.assertIs(is_calm(square(), x), True)

    def test_wishes_that_are_not_answered_make_no_quarrel(self):
        group = Group(("ann", "bob"), {"ann": ["bob"], "bob": []})
        x = {"ann": None, "bob": None}
        self.assertEqual([quarrels(group, x), is_calm(group, x)], [[], True])

    def test_against_the_wishes(self):
        for group in random_groups(12, 40, 0, 6):
            for x in plain_dealings(group):
                want = plain_quarrels(group, x)
                self.assertEqual(quarrels(group, x), want)
                self.assertIs(is_calm(group, x), want == [])


class Pairs(unittest.TestCase):

    def test_there_and_back(self):
        for group in random_groups(13, 40, 0, 6):
            for x in plain_dealings(group):
                pairs = as_pairs(group, x)
                self.assertEqual(pairs, plain_pairs(x))
                self.assertEqual(from_pairs(group, pairs), x)

    def test_alone(self):
        alone = {"ann": None, "bob": None, "cat": None}
        self.assertEqual(as_pairs(triangle(), alone), ())
        self.assertEqual(from_pairs(triangle(), ()), alone)
        self.assertEqual([as_pairs(EMPTY, {}), from_pairs(EMPTY, ())], [(), {}])

    def test_keys_in_another_order(self):
        x = {"dan": "cat", "cat": "dan", "bob": "ann", "ann": "bob"}
        self.assertEqual(as_pairs(square(), x), (("ann", "bob"), ("cat", "dan")))

    def test_not_written_as_pairs(self):
        for pairs in any_values() + [
                "ann", [("ann", "bob")], (["ann", "bob"],), (("bob", "ann"),), (("cat", "dan"), ("ann", "bob")),
                (("ann", "bob"), ("ann", "bob")), (("ann", "bob"), ("ann", "dan")), (("ann", "bob"), ("bob", "cat")),
                (("ann", "cat"),), (("ann", "ann"),), (("ann", None),), (("ann",),), (("ann", "bob", "cat"),),
                (("ann", "eve"),), (("ann", "bob"), ()), ("ann", "bob"), ("ab", "cd"), (("ann", ("bob",)),),
                ((("ann", "bob"), "cat"),), {("ann", "bob"): 1}]:
            if pairs != ():
                with self.subTest(pairs=pairs):
                    raises(self, NoDealing, {}, from_pairs, square(), pairs)

    def test_items_of_pairs(self):
        for value in any_values() + ["eve", 0]:
            with self.subTest(value=value):
                raises(self, NoDealing, {}, from_pairs, square(), (value,))
                raises(self, NoDealing, {}, from_pairs, square(), ((value, "bob"),))
                raises(self, NoDealing, {}, from_pairs, square(), (("ann", value),))

    def test_pairs_are_open(self):
        raises(self, NoDealing, {}, from_pairs, uneven(), (("ann", "bob"),))

    def test_arguments_and_answers(self):
        x = {"ann": "bob", "bob": "ann", "cat": None}
        quarrels(triangle(), x).append(1)
        as_pairs(triangle(), x)
        is_calm(triangle(), x)
        self.assertEqual(x, {"ann": "bob", "bob": "ann", "cat": None})
        self.assertEqual(quarrels(triangle(), x), [("bob", "cat")])
        group, pairs = triangle(), (("ann", "bob"),)
        from_pairs(group, pairs)["ann"] = None
        self.assertEqual(from_pairs(group, pairs), x)


if __name__ == "__main__":
    unittest.main()
