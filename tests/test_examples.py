"""The examples of the interface, as they are written there."""

import unittest

from helpers import raises
from quietpairs.dealings import calm, quarrels
from quietpairs.errors import BadWishes
from quietpairs.groups import Group


class Examples(unittest.TestCase):

    def setUp(self):
        people = ("ann", "bob", "cat")
        wishes = {"ann": ["bob", "cat"], "bob": ["cat", "ann"], "cat": ["ann", "bob"]}
        self.group = Group(people, wishes)

    def test_group(self):
        group = self.group
        self.assertEqual([group.people(), group.open_to("bob"), group.rank("bob", "ann"), len(group)],
                         [['ann', 'bob', 'cat'], ['cat', 'ann'], 1, 3])

    def test_struck(self):
        self.assertEqual(self.group.struck("ann", "bob").pairs(), [('ann', 'cat'), ('bob', 'cat')])

    def test_joined(self):
        more = self.group.joined("eve", ["ann", "cat"], places={"cat": 1})
        self.assertEqual([more.wishes("cat"), more.open_to("eve")], [['ann', 'eve', 'bob'], ['cat']])

    def test_bad_wishes(self):
        raises(self, BadWishes, {"person": "bob"}, Group, ("ann", "bob"), {"ann": ["bob"], "bob": ["bob"]})

    def test_calm(self):
        people = ("ann", "bob", "cat", "dan")
        wishes = {"ann": ["bob", "dan"], "bob": ["cat", "ann"], "cat": ["dan", "bob"], "dan": ["ann", "cat"]}
        group = Group(people, wishes)
        self.assertEqual(calm(group), [(('ann', 'bob'), ('cat', 'dan')), (('ann', 'dan'), ('bob', 'cat'))])

    def test_quarrels(self):
        self.assertEqual(quarrels(self.group, {"ann": "bob", "bob": "ann", "cat": None}), [('bob', 'cat')])


if __name__ == "__main__":
    unittest.main()
