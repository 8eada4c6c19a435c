"""Points 3, 4, 5, 14, 15 and 17: halves, their rings and the odd lots."""

import copy
import itertools
import random
import unittest

from helpers import NAMES, any_values, bad_dealings, everybody, is_half as plain_is_half, is_plain, plain_calm
from helpers import plain_dealings, plain_fault, plain_halves, plain_lots, plain_quarrels, raises, random_groups
from helpers import renamed_groups, ring_from, ring_group, small_groups, square, triangle, turned, two_sides, uneven
from quietpairs.dealings import dealing
from quietpairs.errors import NoDealing, NoHalf
from quietpairs.groups import Group
from quietpairs.halves import alone, fault, half, half_of, is_half, lots, odd, paired, rings

EMPTY = Group((), {})
ONE = Group(("ann",), {"ann": []})
TWO = Group(("bob", "ann"), {"ann": ["bob"], "bob": ["ann"]})
APART = Group(("bob", "ann"), {"ann": ["bob"], "bob": []})
NO_FORM = [
    {"ann": "bob", "bob": "cat"}, {"ann": "bob", "bob": "cat", "cat": "ann", "dan": "dan"},
    {"ann": "bob", "bob": "cat", "dan": "ann"}, {"ann": "bob", "bob": "ann", "cat": "ann"},
    {"ann": "bob", "bob": "ann", "cat": None}, {"ann": "bob", "bob": "ann", "cat": "dan"},
    {"ann": "bob", "bob": "ann", "cat": ("ann", "bob")}, {"ann": "bob", "bob": "ann", "cat": ["cat"]},
    {"ann": "bob", "bob": "ann", 1: "cat"}, {"ann": "bob", "bob": "ann", ("cat",): "cat"},
    ["ann", "bob", "cat"], (("ann", "bob"), ("bob", "cat"), ("cat", "ann")), "ann",
]


def all_dicts(group):
    """All dicts from each person to some person."""
    people = group.people()
    return [dict(zip(people, row)) for row in itertools.product(people, repeat=len(people))]


def plain_paired(x):
    """A half whose even rings are split, the person behind two who are paired being the first of the next two."""
    pairs = dict(x)
    for a in sorted(x):
        ring = ring_from(x, a)
        if a == min(ring) and len(ring) % 2 == 0:
            for first, second in zip(ring[::2], ring[1::2]):
                pairs[first], pairs[second] = second, first
    return pairs


class Fault(unittest.TestCase):

    def check(self, group, x):
        want = plain_fault(group, x)
        self.assertEqual(fault(group, x), want)
        self.assertEqual(fault(group, turned(x)), want)
        self.assertIs(is_half(group, x), want is None)
        return want and want[0]

    def test_all_dicts_of_small_groups(self):
        told = set()
        for group in random_groups(51, 150, 0, 4) + renamed_groups(52, ring_group(4), 5):
            told.update([self.check(group, x) for x in all_dicts(group)])
        self.assertEqual(told, {None, "form", "open", "order", "quarrel"})

    def test_all_rings_of_five_and_six(self):
        told = set()
        for group in random_groups(53, 12, 5, 5) + random_groups(54, 3, 6, 6) + renamed_groups(55, ring_group(6), 2):
            for row in itertools.permutations(group.people()):
                told.add(self.check(group, dict(zip(group.people(), row))))
        self.assertEqual(told, {None, "open", "order", "quarrel"})

    def test_random_dicts_of_larger_groups(self):
        source = random.Random(95)
        told = set()
        for group in random_groups(96, 100, 7, 16):
            for _ in range(10):
                x = half(group)
                a, b = source.sample(group.people(), 2)
                x[a], x[b] = x[b], x[a]
                want = plain_fault(group, x)
                self.assertEqual(fault(group, x), want)
                told.add(want and want[0])
        self.assertEqual(told, {None, "open", "order", "quarrel"})

    def test_a_half(self):
        self.assertIsNone(fault(triangle(), {"ann": "bob", "bob": "cat", "cat": "ann"}))
        self.assertIsNone(fault(square(), {"ann": "bob", "bob": "cat", "cat": "dan", "dan": "ann"}))
        self.assertIs(is_half(square(), {"dan": "ann", "ann": "dan", "cat": "bob", "bob": "cat"}), True)

    def test_small_halves(self):
        self.assertEqual([fault(EMPTY, {}), fault(ONE, {"ann": "ann"})], [None, None])
        self.assertEqual(fault(TWO, {"ann": "bob", "bob": "ann"}), None)
        self.assertEqual(fault(TWO, {"ann": "ann", "bob": "bob"}), ("quarrel", "ann", "bob"))
        self.assertEqual(fault(APART, {"ann": "ann", "bob": "bob"}), None)
        self.assertEqual(fault(APART, {"ann": "bob", "bob": "ann"}), ("open", "ann", "bob"))

    def test_any_value(self):
        for x in any_values() + NO_FORM:
            with self.subTest(x=x):
                self.assertEqual(fault(triangle(), x), ("form",))
                self.assertIs(is_half(triangle(), x), False)
                raises(self, NoHalf, {}, rings, triangle(), x)
                raises(self, NoHalf, {}, paired, triangle(), x)
                if x != {}:
                    self.assertEqual(fault(EMPTY, x), ("form",))

    def test_any_value_of_a_person(self):
        for value in any_values() + ["dan", "bob", "ann", 0, ("ann", "bob"), ("bob", "cat")]:
            with self.subTest(value=value):
                self.assertEqual(fault(triangle(), {"ann": "bob", "bob": "ann", "cat": value}), ("form",))
                self.assertEqual(fault(triangle(), {"ann": "bob", "bob": value, "cat": value}), ("form",))

    def test_the_form_comes_first(self):
        # Ann and bob are not open, but cat has two before her.
        x = {"ann": "bob", "bob": "cat", "cat": "cat", "dan": "dan"}
        self.assertEqual(fault(uneven(), x), ("form",))

    def test_open_comes_before_order(self):
        group = ring_group(3, 3)
        x = {"ann": "cat", "bob": "ann", "cat": "bob", "dan": "dan", "eve": "eve", "fay": "fay"}
        self.assertEqual(fault(group, x), ("order", "ann"))
        self.assertEqual(fault(group.struck("bob", "ann"), x), ("open", "bob", "ann"))
        self.assertEqual(fault(group.struck("cat", "bob").struck("cat", "ann"), x), ("open", "ann", "cat"))

    def test_order_comes_before_a_quarrel(self):
        x = {"ann": "ann", "bob": "bob", "cat": "cat", "dan": "fay", "eve": "dan", "fay": "eve"}
        self.assertEqual(fault(ring_group(3, 3), x), ("order", "dan"))

    def test_the_least_quarrel(self):
        x = {a: a for a in ("ann", "bob", "cat", "dan")}
        self.assertEqual(fault(uneven(), x), ("quarrel", "ann", "cat"))
        self.assertEqual(fault(uneven().struck("ann", "cat"), x), ("quarrel", "ann", "dan"))

    def test_who_is_alone_wants_everybody(self):
        # Cat would take anybody, and bob likes her above ann.
        x = {"ann": "bob", "bob": "ann", "cat": "cat"}
        self.assertEqual(fault(triangle(), x), ("quarrel", "bob", "cat"))

    def test_the_one_before_counts_in_a_ring(self):
        # Dan is liked less than the next ones, but above those before them by nobody but ann.
        people = ("ann", "bob", "cat", "dan")
        wishes = {"ann": ["bob", "dan", "cat"], "bob": ["cat", "ann", "dan"], "cat": ["ann", "bob", "dan"],
                  "dan": ["ann", "bob", "cat"]}
        x = {"ann": "bob", "bob": "cat", "cat": "ann", "dan": "dan"}
        self.assertEqual(fault(Group(people, wishes), x), ("quarrel", "ann", "dan"))
        wishes["ann"] = ["bob", "cat", "dan"]
        self.assertIsNone(fault(Group(people, wishes), x))


class Half(unittest.TestCase):

    def check(self, group):
        x = half(group)
        self.assertIs(x.__class__, dict)
        self.assertTrue(plain_is_half(group, x))
        self.assertTrue(is_plain(x))
        self.assertIs(is_half(group, x), True)
        return x

    def test_many_groups(self):
        for group in random_groups(61, 600, 0, 16):
            self.check(group)

    def test_sixteen_people(self):
        for group in random_groups(62, 100, 16, 16) + renamed_groups(63, two_sides(8), 10) + [everybody(16)]:
            self.check(group)

    def test_groups_of_rings(self):
        for sizes in ((3, 4, 5), (7, 9), (15, 1), (16,), (4, 4, 4, 4), (3, 3, 3, 3, 3, 1), (5, 6, 2, 1, 1), (13,)):
            for group in renamed_groups(64, ring_group(*sizes), 5):
                many = [len(ring_from(self.check(group), a)) for a in group]
                self.assertEqual(sorted(set(many)), sorted({size if size % 2 else 2 for size in sizes}))

    def test_small_groups(self):
        self.assertEqual([half(EMPTY), half(ONE)], [{}, {"ann": "ann"}])
        self.assertEqual([half(TWO), half(APART)], [{"ann": "bob", "bob": "ann"}, {"ann": "ann", "bob": "bob"}])

    def test_a_new_dict_each_time(self):
        group = triangle()
        half(group).clear()
        self.assertEqual(half(group), {"ann": "bob", "bob": "cat", "cat": "ann"})
        self.assertTrue(group == triangle())

    def test_half_among_all_halves(self):
        for group in small_groups():
            if len(group) < 6:
                self.assertIn(half(group), plain_halves(group))


class Lots(unittest.TestCase):

    def check(self, group, want):
        self.assertEqual(lots(group), want)
        self.assertEqual(odd(group), [lot for lot in want if len(lot) >= 3])
        self.assertEqual(alone(group), [lot[0] for lot in want if len(lot) == 1])

    def test_the_same_in_all_halves(self):
        several = 0
        for group in random_groups(71, 120, 0, 5) + random_groups(72, 12, 6, 6) + renamed_groups(73, ring_group(4), 4):
            halves = plain_halves(group)
            self.assertTrue(halves)
            for x in halves:
                self.check(group, plain_lots(x))
            several += len(halves) > 1
        self.assertGreater(several, 5)

    def test_groups_of_rings(self):
        self.check(triangle(), [("ann", "bob", "cat")])
        self.check(square(), [])
        self.check(ring_group(3, 1, 5, 4), [("ann", "bob", "cat"), ("dan",), ("eve", "fay", "gus", "hal", "ivy")])
        self.check(ring_group(1, 3, 1), [("ann",), ("bob", "cat", "dan"), ("eve",)])

    def test_lots_are_sorted(self):
        names = {"ann": "zoe", "bob": "abe", "cat": "kim", "dan": "yan", "eve": "bea", "fay": "leo", "gus": "cid"}
        group = ring_group(3, 3, 1).renamed(names)
        self.check(group, [("abe", "kim", "zoe"), ("bea", "leo", "yan"), ("cid",)])

    def test_small_groups(self):
        self.check(EMPTY, [])
        self.check(ONE, [("ann",)])
        self.check(TWO, [])
        self.check(APART, [("ann",), ("bob",)])

    def test_sixteen_people(self):
        self.check(everybody(16), [])
        self.check(ring_group(15, 1), [NAMES[:15], ("pam",)])
        self.check(everybody(15), [("oda",)])
        self.check(Group(NAMES, {a: [] for a in NAMES}), [(a,) for a in NAMES])

    def test_lots_and_calm_dealings(self):
        found = {True: 0, False: 0}
        for group in random_groups(74, 150, 0, 7):
            calm = plain_calm(group)
            self.assertEqual(calm == [], odd(group) != [])
            for pairs in calm:
                dealt = [a for pair in pairs for a in pair]
                self.assertEqual(alone(group), sorted(set(group.people()) - set(dealt)))
            found[calm == []] += 1
        self.assertTrue(found[True] and found[False])

    def test_any_half_of_a_larger_group(self):
        for group in random_groups(75, 100, 7, 16):
            self.check(group, plain_lots(half(group)))
            self.assertEqual(dealing(group) is None, odd(group) != [])

    def test_party_order_means_nothing(self):
        for group in random_groups(76, 40, 2, 12):
            other = Group(tuple(reversed(group.people())), turned({a: group.wishes(a) for a in group}))
            self.check(other, lots(group))

    def test_answers_may_change(self):
        group = ring_group(3, 1)
        for function in (lots, odd, alone):
            want = function(group)
            function(group).clear()
            self.assertEqual(function(group), want)


class Rings(unittest.TestCase):

    def test_rings(self):
        x = {"cat": "cat", "fay": "eve", "dan": "fay", "eve": "dan", "bob": "ann", "ann": "bob"}
        group = ring_group(2, 1, 3).renamed({"ann": "ann", "bob": "bob", "cat": "cat", "dan": "fay",
                                             "eve": "eve", "fay": "dan"})
        self.assertEqual(rings(group, x), [("ann", "bob"), ("cat",), ("dan", "fay", "eve")])
        self.assertEqual(rings(group, turned(x)), [("ann", "bob"), ("cat",), ("dan", "fay", "eve")])
        self.assertEqual([rings(EMPTY, {}), rings(ONE, {"ann": "ann"})], [[], [("ann",)]])

    def test_paired(self):
        x = dict(zip(NAMES[:8], NAMES[1:8] + NAMES[:1]))
        pairs = {NAMES[k]: NAMES[k ^ 1] for k in range(8)}
        self.assertEqual(paired(ring_group(8), x), pairs)
        self.assertEqual(paired(ring_group(8), pairs), pairs)
        other = {a: b for b, a in pairs.items()}
        self.assertEqual(paired(ring_group(8), other), other)

    def test_paired_goes_the_way_of_the_ring(self):
        # The ring goes from ann to dan, bob, cat and back.
        group = ring_group(4).renamed({"ann": "ann", "bob": "dan", "cat": "bob", "dan": "cat"})
        x = {"ann": "dan", "dan": "bob", "bob": "cat", "cat": "ann"}
        self.assertEqual(paired(group, x), {"ann": "dan", "dan": "ann", "bob": "cat", "cat": "bob"})

    def test_other_rings_stay(self):
        group = ring_group(3, 4, 2, 1, 5)
        x = {a: group.open_to(a)[0] if group.open_to(a) else a for a in group}
        want = {**x, "dan": "eve", "eve": "dan", "fay": "gus", "gus": "fay"}
        self.assertEqual(paired(group, x), want)
        self.assertEqual(paired(group, turned(x)), want)

    def test_small_halves(self):
        self.assertEqual([paired(EMPTY, {}), paired(ONE, {"ann": "ann"})], [{}, {"ann": "ann"}])
        self.assertEqual(paired(TWO, {"ann": "bob", "bob": "ann"}), {"ann": "bob", "bob": "ann"})

    def test_all_halves_of_small_groups(self):
        uneven_halves = 0
        groups = random_groups(81, 60, 0, 6) + renamed_groups(82, ring_group(4, 1), 5)
        for group in groups + renamed_groups(83, ring_group(6), 3) + renamed_groups(84, two_sides(3), 3):
            for x in plain_halves(group):
                want = sorted({tuple(ring_from(x, min(ring_from(x, a)))) for a in x})
                self.assertEqual(rings(group, x), want)
                pairs = paired(group, x)
                self.assertEqual(pairs, plain_paired(x))
                self.assertTrue(plain_is_half(group, pairs) and is_plain(pairs))
                uneven_halves += not is_plain(x)
        self.assertGreater(uneven_halves, 10)

    def test_sixteen_people(self):
        ring = dict(zip(NAMES, NAMES[1:] + NAMES[:1]))
        pairs = {NAMES[k]: NAMES[k ^ 1] for k in range(16)}
        self.assertEqual([rings(ring_group(16), ring), paired(ring_group(16), ring)], [[NAMES], pairs])
        dealt = {NAMES[k]: NAMES[k ^ 1] if k < 15 and k ^ 1 < 15 else None for k in range(15)}
        self.assertEqual(half_of(everybody(16), pairs), pairs)
        self.assertEqual(half_of(everybody(16), {**dealt, "pam": None}), {**pairs, "oda": "oda", "pam": "pam"})
        self.assertEqual(fault(everybody(16), {**pairs, "oda": "oda", "pam": "pam"}), ("quarrel", "oda", "pam"))

    def test_no_half(self):
        bad = [{"ann": "cat", "cat": "bob", "bob": "ann"}, {"ann": "bob", "bob": "ann", "cat": "cat"},
               {"ann": "ann", "bob": "bob", "cat": "cat"}, {"ann": None, "bob": None, "cat": None}]
        for x in bad:
            raises(self, NoHalf, {}, rings, triangle(), x)
            raises(self, NoHalf, {}, paired, triangle(), x)
        group = triangle().struck("ann", "bob")
        raises(self, NoHalf, {}, rings, group, {"ann": "bob", "bob": "cat", "cat": "ann"})

    def test_arguments_and_answers(self):
        x = {"ann": "bob", "bob": "cat", "cat": "dan", "dan": "ann"}
        kept = copy.deepcopy(x)
        group = square()
        for function in (rings, paired, fault, is_half):
            function(group, x)
        self.assertEqual(x, kept)
        rings(group, x).clear()
        paired(group, x).clear()
        self.assertEqual([rings(group, x), len(paired(group, x))], [[("ann", "bob", "cat", "dan")], 4])
        plain = {"ann": "bob", "bob": "ann", "cat": "dan", "dan": "cat"}
        pairs = paired(group, plain)
        pairs["ann"] = None
        self.assertEqual(plain["ann"], "bob")


class HalfOf(unittest.TestCase):

    def test_half_of(self):
        x = {"cat": None, "bob": "ann", "ann": "bob"}
        self.assertEqual(half_of(triangle(), x), {"ann": "bob", "bob": "ann", "cat": "cat"})
        self.assertEqual([half_of(EMPTY, {}), half_of(ONE, {"ann": None})], [{}, {"ann": "ann"}])

    def test_a_half_if_calm(self):
        for group in random_groups(91, 60, 0, 6):
            for x in plain_dealings(group):
                y = half_of(group, x)
                self.assertEqual(y, {a: a if x[a] is None else x[a] for a in x})
                self.assertIs(is_half(group, y), plain_quarrels(group, x) == [])

    def test_no_dealing(self):
        for x in any_values() + bad_dealings():
            with self.subTest(x=x):
                raises(self, NoDealing, {}, half_of, triangle(), x)
        raises(self, NoDealing, {}, half_of, uneven(), {"ann": "bob", "bob": "ann", "cat": None, "dan": None})

    def test_arguments_and_answers(self):
        x = {"ann": "bob", "bob": "ann", "cat": None}
        half_of(triangle(), x)["cat"] = None
        self.assertEqual(x, {"ann": "bob", "bob": "ann", "cat": None})
        self.assertEqual(half_of(triangle(), x)["cat"], "cat")


if __name__ == "__main__":
    unittest.main()
