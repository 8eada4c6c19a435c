"""Points 6, 12 and 13: finding one calm dealing, and all of them."""

import itertools
import unittest

from helpers import NAMES, everybody, is_half, plain_calm, plain_quarrels, raises, random_groups, square, triangle
from quietpairs.dealings import as_pairs, calm, count, dealing, each_calm, first, is_calm, is_dealing
from quietpairs.errors import TooMany
from quietpairs.groups import Group
from quietpairs.seats import found_half, rings_of

EMPTY = Group((), {})


def all_groups_of_three():
    """All groups of ann, bob and cat."""
    people = ("ann", "bob", "cat")
    choices = []
    for a in people:
        others = [b for b in people if b != a]
        choices.append([list(row) for many in range(3) for row in itertools.permutations(others, many)])
    return [Group(people, dict(zip(people, rows))) for rows in itertools.product(*choices)]


def all_full_groups_of_four():
    """All groups of four people in which everybody wishes for all others."""
    people = NAMES[:4]
    choices = [[list(row) for row in itertools.permutations([b for b in people if b != a])] for a in people]
    return [Group(people, dict(zip(people, rows))) for rows in itertools.product(*choices)]


class All(unittest.TestCase):

    def check(self, group):
        want = plain_calm(group)
        self.assertEqual(calm(group), want)
        self.assertEqual(count(group), len(want))
        self.assertEqual(first(group), want[0] if want else None)
        self.assertEqual([as_pairs(group, x) for x in each_calm(group)], want)
        x = dealing(group)
        self.assertEqual(x is not None, bool(want))
        if want:
            self.assertIn(as_pairs(group, x), want)

    def test_three_people(self):
        for group in all_groups_of_three():
            self.check(group)

    def test_four_people(self):
        for group in all_full_groups_of_four():
            self.check(group)

    def test_more_people(self):
        for group in random_groups(21, 150, 5, 7):
            self.check(group)

    def test_empty_group(self):
        self.assertEqual([calm(EMPTY), count(EMPTY), first(EMPTY), list(each_calm(EMPTY))], [[()], 1, (), [{}]])
        self.assertEqual(dealing(EMPTY), {})

    def test_nobody_is_open(self):
        group = Group(("ann", "bob"), {"ann": ["bob"], "bob": []})
        self.assertEqual([calm(group), count(group), first(group)], [[()], 1, ()])
        alone = {"ann": None, "bob": None}
        self.assertEqual([list(each_calm(group)), dealing(group)], [[alone], alone])

    def test_no_calm_dealing(self):
        group = triangle()
        self.assertEqual([calm(group), count(group), first(group), list(each_calm(group))], [[], 0, None, []])
        self.assertIsNone(dealing(group))

    def test_party_order_means_nothing(self):
        for group in random_groups(22, 20, 2, 6):
            people = tuple(reversed(group.people()))
            self.assertEqual(calm(Group(people, {a: group.wishes(a) for a in people})), calm(group))

    def test_each_calm_gives_dicts(self):
        pairs = {"ann": "bob", "bob": "ann", "cat": "dan", "dan": "cat"}
        other = {"ann": "dan", "bob": "cat", "cat": "bob", "dan": "ann"}
        self.assertEqual(list(each_calm(square())), [pairs, other])

    def test_ten_people(self):
        group = everybody(10)
        want = tuple((NAMES[k], NAMES[k + 1]) for k in range(0, 10, 2))
        self.assertEqual([calm(group), count(group), first(group)], [[want], 1, want])
        self.assertEqual([as_pairs(group, x) for x in each_calm(group)], [want])

    def test_several_squares(self):
        # Two squares and a pair have all combinations of their calm dealings.
        people = NAMES[:10]
        wishes = {}
        for k in (0, 4):
            for j in range(4):
                wishes[people[k + j]] = [people[k + (j + 1) % 4], people[k + (j + 3) % 4]]
        wishes.update({people[8]: [people[9]], people[9]: [people[8]]})
        group = Group(people, wishes)
        self.assertEqual(count(group), 4)
        self.assertEqual([is_calm(group, x) for x in each_calm(group)], [True] * 4)
        self.assertEqual(calm(group), sorted(calm(group)))

    def test_eleven_people(self):
        for many in (11, 16):
            for function in (calm, count, first):
                raises(self, TooMany, {"most": 10}, function, everybody(many))

    def test_each_calm_raises_when_it_is_iterated_over(self):
        steps = each_calm(everybody(11))
        raises(self, TooMany, {"most": 10}, lambda: next(steps))

    def test_answers_may_change(self):
        group = square()
        calm(group).clear()
        for x in each_calm(group):
            x.clear()
        dealing(group).clear()
        self.assertEqual([len(calm(group)), len(list(each_calm(group))), is_calm(group, dealing(group))], [2, 2, True])


class One(unittest.TestCase):

    def test_larger_groups(self):
        found = {True: 0, False: 0}
        for group in random_groups(23, 300, 8, 16):
            # Point 15: a half with an odd ring of three or more shows that there is no calm dealing.
            half = found_half(group)
            self.assertTrue(is_half(group, half))
            odd = [ring for ring in rings_of(half) if len(ring) > 2 and len(ring) % 2 == 1]
            x = dealing(group)
            self.assertEqual(x is None, bool(odd))
            found[x is None] += 1
            if x is not None:
                self.assertIs(is_dealing(group, x), True)
                self.assertEqual(plain_quarrels(group, x), [])
        self.assertTrue(found[True] and found[False])

    def test_agrees_with_all(self):
        for group in random_groups(24, 60, 8, 10):
            dealings = calm(group)
            x = dealing(group)
            self.assertEqual(x is None, dealings == [])
            if dealings:
                self.assertIn(as_pairs(group, x), dealings)

    def test_sixteen_people(self):
        group = everybody(16)
        self.assertEqual(as_pairs(group, dealing(group)), tuple((NAMES[k], NAMES[k + 1]) for k in range(0, 16, 2)))

    def test_a_ring_among_sixteen(self):
        group = everybody(16)
        for a, row in (("ann", ["bob", "cat"]), ("bob", ["cat", "ann"]), ("cat", ["ann", "bob"])):
            group = group.with_wishes(a, row)
        self.assertIsNone(dealing(group))
        x = dealing(group.without("bob"))
        self.assertEqual([x["ann"], is_calm(group.without("bob"), x)], ["cat", True])

    def test_long_rings(self):
        for many in range(3, 17):
            people = NAMES[:many]
            wishes = {people[k]: [people[(k + 1) % many], people[k - 1]] for k in range(many)}
            x = dealing(Group(people, wishes))
            self.assertEqual(x is None, many % 2 == 1)


if __name__ == "__main__":
    unittest.main()
