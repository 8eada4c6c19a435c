"""Points 3, 4, 5 and 18: what changes when people leave."""

import itertools
import unittest

from helpers import NAMES, any_values, everybody, plain_calm, plain_calm_dicts, plain_dealings, plain_lots
from helpers import plain_quarrels, raises, random_groups, renamed_groups, ring_group, some_half, square, triangle
from helpers import two_sides, uneven
from quietpairs.errors import BadLot, NoPerson
from quietpairs.groups import Group
from quietpairs.halves import lots
from quietpairs.leaving import change, changes, fewest, leavers, may_leave, most_pairs, rest_dealing

EMPTY = Group((), {})
ONE = Group(("ann",), {"ann": []})
TWO = Group(("bob", "ann"), {"ann": ["bob"], "bob": ["ann"]})
APART = Group(("bob", "ann"), {"ann": ["bob"], "bob": []})


def groups_with_rings():
    """Small groups, many of which have odd rings, under other names and in other party orders."""
    found = random_groups(101, 50, 0, 5) + random_groups(102, 8, 6, 6)
    for seed, sizes in enumerate(((3,), (3, 2), (3, 1), (5,), (4,), (4, 1), (3, 1, 1), (3, 3), (5, 1), (4, 2))):
        found.extend(renamed_groups(seed, ring_group(*sizes), 2))
    return found


def all_lots(group):
    """All sorted lists of people of the group, those of few people first."""
    people = sorted(group.people())
    return [list(lot) for many in range(len(people) + 1) for lot in itertools.combinations(people, many)]


def quiet_among_dealt(group, x):
    """Whether no quarrel of the dealing has two dealt people, read off the wishes alone."""
    return all(x[a] is None or x[b] is None for a, b in plain_quarrels(group, x))


class Change(unittest.TestCase):

    def check(self, group):
        before = plain_lots(some_half(group))
        told = changes(group)
        self.assertEqual(sorted(told), sorted(group.people()))
        for a in group:
            after = plain_lots(some_half(group.without(a)))
            want = [("gone", lot) for lot in before if lot not in after]
            want.extend([("new", lot) for lot in after if lot not in before])
            self.assertEqual([change(group, a)], want)
            self.assertEqual([told[a]], want)
            for lot in before:
                if a in lot:
                    self.assertEqual(told[a], ("gone", lot))
        return [kind for kind, _ in told.values()]

    def test_against_all_halves(self):
        kinds = [kind for group in groups_with_rings() for kind in self.check(group)]
        self.assertGreater(min(kinds.count("gone"), kinds.count("new")), 20)

    def test_larger_groups(self):
        for group in random_groups(103, 40, 7, 16):
            before = lots(group)
            for a, (kind, lot) in changes(group).items():
                self.assertEqual(change(group, a), (kind, lot))
                after = lots(group.without(a))
                if kind == "gone":
                    self.assertEqual(sorted(after + [lot]), before)
                else:
                    self.assertEqual([kind, sorted(before + [lot])], ["new", after])

    def test_known_changes(self):
        self.assertEqual(change(triangle(), "cat"), ("gone", ("ann", "bob", "cat")))
        self.assertEqual(change(ring_group(3, 2), "eve"), ("new", ("dan",)))
        self.assertEqual(change(ring_group(3, 1), "dan"), ("gone", ("dan",)))
        # Cat is alone beside a pair, and takes the place of one who leaves.
        self.assertEqual(changes(everybody(3)), {"ann": ("gone", ("cat",)), "bob": ("gone", ("cat",)),
                                                 "cat": ("gone", ("cat",))})
        # Dan is the one who keeps three others from standing in a ring.
        wishes = {"ann": ["dan", "bob", "cat"], "bob": ["cat", "ann"], "cat": ["ann", "bob"], "dan": ["ann"]}
        group = Group(("ann", "bob", "cat", "dan"), wishes)
        self.assertEqual(change(group, "dan"), ("new", ("ann", "bob", "cat")))

    def test_small_groups(self):
        self.assertEqual(changes(EMPTY), {})
        self.assertEqual([changes(ONE), change(ONE, "ann")], [{"ann": ("gone", ("ann",))}, ("gone", ("ann",))])
        self.assertEqual(changes(TWO), {"ann": ("new", ("bob",)), "bob": ("new", ("ann",))})
        self.assertEqual(changes(APART), {"ann": ("gone", ("ann",)), "bob": ("gone", ("bob",))})

    def test_sixteen_people(self):
        self.assertEqual(change(everybody(16), "pam"), ("new", ("oda",)))
        told = changes(ring_group(15, 1))
        self.assertEqual(told, {a: ("gone", ("pam",) if a == "pam" else NAMES[:15]) for a in NAMES})

    def test_nobody(self):
        for value in any_values() + ["dan", 0, ("ann", "bob"), ["ann"]]:
            with self.subTest(value=value):
                raises(self, NoPerson, {"value": value}, change, triangle(), value)
        raises(self, NoPerson, {"value": "ann"}, change, EMPTY, "ann")
        raises(self, NoPerson, {"value": "zoe"}, change, everybody(16), "zoe")

    def test_answers_may_change(self):
        group = triangle()
        changes(group).clear()
        self.assertEqual(len(changes(group)), 3)
        self.assertTrue(group == triangle())


class Leavers(unittest.TestCase):

    def check(self, group):
        fits = [lot for lot in all_lots(group) if plain_calm(group.outside(lot))]
        for lot in all_lots(group):
            self.assertIs(may_leave(group, lot), lot in fits)
            self.assertIs(may_leave(group, lot[::-1]), lot in fits)
            x = rest_dealing(group, lot)
            self.assertEqual(x is not None, lot in fits)
            if x is not None:
                self.assertIn(x, plain_calm_dicts(group.outside(lot)))
        self.assertEqual(fewest(group), len(fits[0]))
        people = leavers(group)
        self.assertIn(people, fits)
        self.assertEqual(len(people), len(fits[0]))
        return len(people)

    def test_against_all_lots(self):
        many = [self.check(group) for group in groups_with_rings()]
        self.assertEqual(sorted(set(many)), [0, 1, 2])

    def test_larger_groups(self):
        for group in random_groups(111, 100, 7, 16) + renamed_groups(112, ring_group(3, 5, 3, 4, 1), 5):
            people = leavers(group)
            self.assertEqual(people, sorted(people))
            self.assertEqual([len(people), fewest(group)], [len([lot for lot in lots(group) if len(lot) > 2])] * 2)
            self.assertIs(may_leave(group, people), True)
            x = rest_dealing(group, people)
            self.assertEqual(sorted(x), sorted(set(group.people()) - set(people)))
            self.assertEqual(plain_quarrels(group.outside(people), x), [])
            if people:
                self.assertIs(may_leave(group, people[1:]), False)
                self.assertIsNone(rest_dealing(group, people[1:]))

    def test_small_groups(self):
        for group in (EMPTY, ONE, TWO, APART):
            self.assertEqual([fewest(group), leavers(group), may_leave(group, [])], [0, [], True])
        self.assertEqual([rest_dealing(EMPTY, []), rest_dealing(ONE, []), rest_dealing(ONE, ["ann"])],
                         [{}, {"ann": None}, {}])
        self.assertEqual([rest_dealing(TWO, []), rest_dealing(TWO, ["bob"])],
                         [{"ann": "bob", "bob": "ann"}, {"ann": None}])

    def test_known_lots(self):
        group = ring_group(3, 3, 5, 4, 1)
        self.assertEqual([fewest(group), may_leave(group, ["ann", "dan", "gus"])], [3, True])
        self.assertIs(may_leave(group, ["ann", "bob", "cat", "dan"]), False)
        self.assertIs(may_leave(group, []), False)
        self.assertIs(may_leave(triangle(), ["cat", "bob", "ann"]), True)
        self.assertIsNone(rest_dealing(triangle(), []))
        self.assertEqual(rest_dealing(triangle(), ["ann"]), {"bob": "cat", "cat": "bob"})

    def test_sixteen_people(self):
        group = ring_group(3, 3, 3, 3, 3, 1)
        people = leavers(group)
        self.assertEqual([fewest(group), len(people), may_leave(group, people)], [5, 5, True])
        self.assertEqual([fewest(everybody(16)), leavers(everybody(16))], [0, []])
        self.assertIs(may_leave(group, list(NAMES)), True)
        self.assertEqual(rest_dealing(group, list(NAMES)), {})

    def test_lots_of_another_kind(self):
        for lot in any_values() + [("ann",), "ann", {"ann": 1}, 0]:
            if not isinstance(lot, list):
                with self.subTest(lot=lot):
                    raises(self, BadLot, {"index": -1}, may_leave, triangle(), lot)
                    raises(self, BadLot, {"index": -1}, rest_dealing, triangle(), lot)

    def test_items_that_do_not_fit(self):
        for item in any_values() + ["dan", "bob", 0, ("ann", "cat")]:
            with self.subTest(item=item):
                raises(self, BadLot, {"index": 1}, may_leave, triangle(), ["bob", item, item])
                raises(self, BadLot, {"index": 1}, rest_dealing, triangle(), ["bob", item, item])
        raises(self, BadLot, {"index": 0}, may_leave, EMPTY, ["ann"])
        raises(self, BadLot, {"index": 2}, rest_dealing, square(), ["ann", "bob", "ann", 1])
        raises(self, BadLot, {"index": 16}, may_leave, everybody(16), list(NAMES) + ["ann"])

    def test_arguments_and_answers(self):
        group, lot = ring_group(3, 3), ["dan", "ann"]
        may_leave(group, lot)
        rest_dealing(group, lot).clear()
        self.assertEqual([lot, len(rest_dealing(group, lot))], [["dan", "ann"], 4])
        leavers(group).clear()
        self.assertEqual(len(leavers(group)), 2)
        self.assertTrue(group == ring_group(3, 3))


class MostPairs(unittest.TestCase):

    def check(self, group):
        number, x = most_pairs(group)
        self.assertIn(x, plain_dealings(group))
        self.assertTrue(quiet_among_dealt(group, x))
        self.assertEqual(len([a for a in x if x[a] is not None]), 2 * number)
        return number

    def test_against_all_dealings(self):
        less = 0
        for group in groups_with_rings() + random_groups(121, 5, 7, 7) + renamed_groups(122, ring_group(7), 2):
            number = self.check(group)
            quiet = [x for x in plain_dealings(group) if quiet_among_dealt(group, x)]
            self.assertEqual(2 * number, max(len([a for a in x if x[a] is not None]) for x in quiet))
            less += 2 * number < len(group)
        self.assertGreater(less, 10)

    def test_larger_groups(self):
        groups = random_groups(123, 80, 8, 16) + renamed_groups(124, ring_group(5, 3, 7, 1), 5)
        for group in groups + renamed_groups(125, ring_group(3, 6, 4, 3), 5):
            x = most_pairs(group)[1]
            self.assertEqual(sorted(x), sorted(group.people()))
            self.assertTrue(all(b is None or (x[b] == a and b in group.open_to(a)) for a, b in x.items()))
            self.assertTrue(quiet_among_dealt(group, x))
            number = (len(group) - len(lots(group))) // 2
            self.assertEqual([most_pairs(group)[0], len([a for a in x if x[a] is not None])], [number, 2 * number])

    def test_known_numbers(self):
        self.assertEqual([most_pairs(EMPTY), most_pairs(ONE)], [(0, {}), (0, {"ann": None})])
        self.assertEqual(most_pairs(TWO), (1, {"ann": "bob", "bob": "ann"}))
        self.assertEqual(most_pairs(APART), (0, {"ann": None, "bob": None}))
        self.assertEqual([self.check(triangle()), self.check(square()), self.check(uneven())], [1, 2, 2])
        self.assertEqual([self.check(ring_group(3, 3)), self.check(ring_group(5, 1))], [2, 2])
        self.assertEqual([most_pairs(everybody(16))[0], most_pairs(ring_group(15, 1))[0]], [8, 7])

    def test_a_calm_dealing_if_there_is_one(self):
        for group in renamed_groups(126, two_sides(3), 5) + renamed_groups(127, ring_group(4, 2, 1), 5):
            self.assertIn(most_pairs(group)[1], plain_calm_dicts(group))

    def test_answers_may_change(self):
        group = triangle()
        most_pairs(group)[1].clear()
        self.assertEqual(self.check(group), 1)


if __name__ == "__main__":
    unittest.main()
