"""The examples of the interface, as they are written there."""

import unittest

from helpers import raises
from quietpairs.cheapest import Scale, least_total
from quietpairs.dealings import calm, quarrels
from quietpairs.edits import core, mend
from quietpairs.errors import BadWishes, NoCalm, NoText
from quietpairs.following import book, follows, tells
from quietpairs.groups import Group
from quietpairs.halves import fault, half, lots, paired
from quietpairs.leaving import change, fewest, most_pairs
from quietpairs.live import Round
from quietpairs.pairs import both, may, sure, table
from quietpairs.texts import group_text, read_group


class Examples(unittest.TestCase):

    def setUp(self):
        people = ("ann", "bob", "cat")
        wishes = {"ann": ["bob", "cat"], "bob": ["cat", "ann"], "cat": ["ann", "bob"]}
        self.group = Group(people, wishes)
        people = ("ann", "bob", "cat", "dan")
        wishes = {"ann": ["bob", "dan"], "bob": ["cat", "ann"], "cat": ["dan", "bob"], "dan": ["ann", "cat"]}
        self.four = Group(people, wishes)

    def test_group(self):
        group = self.group
        self.assertEqual([group.people(), group.open_to("bob"), group.rank("bob", "ann"), len(group)],
                         [['ann', 'bob', 'cat'], ['cat', 'ann'], 1, 3])

    def test_struck(self):
        self.assertEqual(self.group.struck("ann", "bob").pairs(), [('ann', 'cat'), ('bob', 'cat')])

    def test_joined(self):
        more = self.group.joined("eve", ["ann", "cat"], places={"cat": 1})
        self.assertEqual([more.wishes("cat"), more.open_to("eve")], [['ann', 'eve', 'bob'], ['cat']])

    def test_bad_wishes(self):
        raises(self, BadWishes, {"person": "bob"}, Group, ("ann", "bob"), {"ann": ["bob"], "bob": ["bob"]})

    def test_calm(self):
        self.assertEqual(calm(self.four), [(('ann', 'bob'), ('cat', 'dan')), (('ann', 'dan'), ('bob', 'cat'))])

    def test_quarrels(self):
        self.assertEqual(quarrels(self.group, {"ann": "bob", "bob": "ann", "cat": None}), [('bob', 'cat')])

    def test_half_and_lots(self):
        self.assertEqual([sorted(half(self.group).items()), lots(self.group)],
                         [[('ann', 'bob'), ('bob', 'cat'), ('cat', 'ann')], [('ann', 'bob', 'cat')]])

    def test_fault(self):
        self.assertEqual(fault(self.group, {"ann": "cat", "cat": "bob", "bob": "ann"}), ('order', 'ann'))

    def test_paired(self):
        x = {"ann": "bob", "bob": "cat", "cat": "dan", "dan": "ann"}
        self.assertEqual(sorted(paired(self.four, x).items()),
                         [('ann', 'bob'), ('bob', 'ann'), ('cat', 'dan'), ('dan', 'cat')])

    def test_fewest_and_change(self):
        self.assertEqual([fewest(self.group), change(self.group, "bob")], [1, ('gone', ('ann', 'bob', 'cat'))])

    def test_most_pairs(self):
        self.assertEqual(most_pairs(self.group)[0], 1)

    def test_may_and_both(self):
        self.assertEqual([may(self.four, "bob"), both(self.four, "ann", "bob", "cat", "bob")], [['cat', 'ann'], None])

    def test_table(self):
        self.assertEqual(table(self.four)[("ann", "cat")], [('bob', 'dan'), ('dan', 'bob')])

    def test_sure(self):
        raises(self, NoCalm, {}, sure, self.group)

    def test_tells_and_book(self):
        self.assertEqual([tells(self.four, ("least", "ann", "bob"), ("most", "dan", "cat")), len(book(self.four))],
                         [True, 12])

    def test_follows(self):
        group = Group(("ann", "bob"), {"ann": ["bob"], "bob": ["ann"]})
        self.assertEqual(follows(group, ("most", "bob", "ann")),
                         [('least', 'ann', 'bob'), ('least', 'bob', 'ann'),
                          ('most', 'ann', 'bob'), ('most', 'bob', 'ann')])

    def test_cheapest(self):
        scale = Scale({"ann": 5}, rest=2)
        x = {"ann": "bob", "bob": "ann", "cat": "dan", "dan": "cat"}
        self.assertEqual([scale(self.four, x), least_total(self.four, scale)[0], (scale + scale).weight("bob")],
                         [4, 4, 4])

    def test_core(self):
        people = ("ann", "bob", "cat")
        wishes = {"ann": ["bob", "cat"], "bob": ["ann", "cat"], "cat": ["ann", "bob"]}
        self.assertEqual(core(Group(people, wishes)).pairs(), [('ann', 'bob')])

    def test_mend(self):
        self.assertEqual(mend(self.group), [('ann', 0)])

    def test_live(self):
        live = Round(self.group)
        live.leave("ann")
        told = live.moved()
        live.undo()
        self.assertEqual([told, live.moved(), len(live)],
                         [([('ann', 'bob', 'cat')], []), ([], [('ann', 'bob', 'cat')]), 0])

    def test_group_text(self):
        self.assertEqual(group_text(self.group), 'people ann bob cat\nann: bob cat\nbob: cat ann\ncat: ann bob\n')

    def test_read_group(self):
        raises(self, NoText, {"line": 3}, read_group, "people ann bob\nann: bob\nbob:  ann\n")


if __name__ == "__main__":
    unittest.main()
