"""Points 3 to 5 and 29 to 31: which changes of wishes matter, and which bring a calm dealing."""

import random
import unittest

from helpers import NAMES, any_values, everybody, plain_calm, plain_calm_dicts, plain_dealings, plain_quarrels, raises
from helpers import random_groups, renamed_groups, ring_group, small_groups, square, triangle, two_sides, uneven
from quietpairs.edits import alike, core, harmless, mend, needless, parted
from quietpairs.errors import BadMost, BadPlace, NoPerson, NotOpen, TooMany, UnlikePeople
from quietpairs.groups import Group

EMPTY = Group((), {})
ONE = Group(("ann",), {"ann": []})
TWO = Group(("bob", "ann"), {"ann": ["bob"], "bob": ["ann"]})
APART = Group(("ann", "bob"), {"ann": ["bob"], "bob": []})


def open_row(wishes, a):
    """The people who are open to a."""
    return [b for b in wishes[a] if a in wishes[b]]


def wishes_of(group):
    """The wishes as a dict."""
    return {a: group.wishes(a) for a in group.people()}


def plain_exchanged(group, a, k):
    """The group after an exchange, made of the wishes alone."""
    wishes = wishes_of(group)
    row = open_row(wishes, a)
    i, j = wishes[a].index(row[k]), wishes[a].index(row[k + 1])
    wishes[a][i], wishes[a][j] = wishes[a][j], wishes[a][i]
    return Group(tuple(group.people()), wishes)


def plain_struck(group, a, b):
    """The group in which a does not wish for b, made of the wishes alone."""
    wishes = wishes_of(group)
    wishes[a].remove(b)
    return Group(tuple(group.people()), wishes)


def plain_core(group):
    """The core as point 30 says, by searches through all dealings."""
    wishes = wishes_of(group)
    pairs = sorted((a, b) for a in wishes for b in open_row(wishes, a) if a < b)
    for a, b in pairs:
        less = plain_struck(group, a, b)
        if plain_calm(less) == plain_calm(group):
            group = less
    return group


def has_calm(group):
    """Whether some dealing is calm, by a search through all of them."""
    return any(not plain_quarrels(group, x) for x in plain_dealings(group))


def all_exchanges(group):
    """All exchanges that a group takes, in no special order."""
    wishes = wishes_of(group)
    return [(a, k) for a in wishes for k in range(len(open_row(wishes, a)) - 1)]


def plain_mends(group):
    """The first lists of none, one and two exchanges after which there is a calm dealing; None where there is none."""
    ones = [([step], plain_exchanged(group, *step)) for step in all_exchanges(group)]
    twos = [(way + [step], plain_exchanged(made, *step)) for way, made in ones for step in all_exchanges(made)]
    # Many ways lead to the same wishes, which are searched only once.
    known = {}
    found = []
    for ways in ([([], group)], ones, twos):
        fits = []
        for way, made in ways:
            key = repr(wishes_of(made))
            if key not in known:
                known[key] = has_calm(made)
            if known[key]:
                fits.append(way)
        found.append(min(fits, default=None))
    return found


def stiff():
    """Five people for whom two exchanges do not bring a calm dealing."""
    wishes = {
        "ann": ["dan", "cat", "eve", "bob"], "bob": ["ann", "cat", "eve", "dan"], "cat": ["eve", "bob", "ann", "dan"],
        "dan": ["bob", "eve", "cat", "ann"], "eve": ["cat", "bob", "ann", "dan"],
    }
    return Group(tuple(sorted(wishes)), wishes)


def tough():
    """Five people for whom one exchange does not bring a calm dealing, and two do."""
    wishes = {
        "ann": ["bob", "cat", "eve", "dan"], "bob": ["ann", "eve", "cat", "dan"], "cat": ["bob", "dan", "ann", "eve"],
        "dan": ["ann", "eve", "bob", "cat"], "eve": ["cat", "bob", "dan", "ann"],
    }
    return Group(tuple(sorted(wishes)), wishes)


def hard_to_mend():
    """Groups of up to six people without a calm dealing; some of them need two exchanges, and some need more."""
    found = renamed_groups(211, ring_group(3), 3) + renamed_groups(212, ring_group(3, 3), 3)
    found.extend(renamed_groups(213, ring_group(3, 1), 2) + renamed_groups(214, ring_group(5), 2))
    found.extend(renamed_groups(215, tough(), 4) + renamed_groups(216, stiff(), 4))
    return found


class Alike(unittest.TestCase):

    def check(self, one, other):
        left, right = plain_calm_dicts(one), plain_calm_dicts(other)
        same = all(x in right for x in left) and all(x in left for x in right)
        self.assertIs(alike(one, other), same)
        x = parted(one, other)
        self.assertEqual(x is None, same)
        if x is not None:
            self.assertNotEqual(x in left, x in right)
        return same

    def test_against_all_dealings(self):
        source = random.Random(221)
        told = []
        for group in small_groups():
            people = group.people()
            wishes = wishes_of(group)
            if len(people) > 1:
                a = source.choice(people)
                source.shuffle(wishes[a])
                wishes[a] = wishes[a][:source.randint(len(wishes[a]) // 2, len(wishes[a]))]
            source.shuffle(people)
            other = Group(tuple(people), wishes)
            told.append(self.check(group, other))
            self.check(other, group)
            self.assertIs(alike(group, group), True)
        self.assertGreater(min(told.count(True), told.count(False)), 50)

    def test_any_party_order(self):
        for group in (square(), triangle(), uneven(), two_sides(4), everybody(8)):
            other = Group(tuple(reversed(group.people())), wishes_of(group))
            self.assertEqual([alike(group, other), parted(group, other)], [True, None])

    def test_dealings_of_one_group_alone(self):
        # The one group has two calm dealings, the other one has only the first of them.
        less = square().struck("ann", "dan")
        want = {"ann": "dan", "dan": "ann", "bob": "cat", "cat": "bob"}
        self.assertEqual([parted(square(), less), parted(less, square())], [want, want])
        for x in (parted(TWO, APART), parted(APART, TWO)):
            self.assertIn(x, [{"ann": "bob", "bob": "ann"}, {"ann": None, "bob": None}])

    def test_no_calm_dealing_is_needed(self):
        other = Group(("cat", "bob", "ann"), {"ann": ["cat", "bob"], "bob": ["ann", "cat"], "cat": ["bob", "ann"]})
        self.assertEqual([alike(triangle(), other), parted(triangle(), other)], [True, None])
        calm = triangle().struck("ann", "bob")
        want = {"ann": "cat", "bob": None, "cat": "ann"}
        self.assertEqual([alike(triangle(), calm), parted(triangle(), calm), parted(calm, triangle())],
                         [False, want, want])

    def test_small_groups(self):
        self.assertEqual([alike(EMPTY, EMPTY), parted(EMPTY, Group((), {}))], [True, None])
        self.assertEqual([alike(ONE, ONE), parted(ONE, ONE), alike(TWO, APART), alike(APART, APART)],
                         [True, None, False, True])

    def test_unlike_people(self):
        others = [EMPTY, ONE, TWO, triangle(), square(), everybody(8), everybody(9), everybody(16),
                  Group(("zoe",), {"zoe": []}), triangle().renamed({"ann": "ann", "bob": "bob", "cat": "dan"})]
        for k, one in enumerate(others):
            for other in others[:k] + others[k + 1:]:
                raises(self, UnlikePeople, {}, alike, one, other)
                raises(self, UnlikePeople, {}, parted, one, other)

    def test_nine_people(self):
        for group in (everybody(9), everybody(16), ring_group(9), ring_group(4, 4, 4)):
            other = Group(tuple(reversed(group.people())), wishes_of(group))
            for function in (alike, parted):
                raises(self, TooMany, {"most": 8}, function, group, other)
                raises(self, TooMany, {"most": 8}, function, group, group)


class Single(unittest.TestCase):

    def check_harmless(self, group):
        told = []
        for a, k in all_exchanges(group):
            same = plain_calm(plain_exchanged(group, a, k)) == plain_calm(group)
            self.assertIs(harmless(group, a, k), same)
            told.append(same)
        return told

    def check_needless(self, group):
        told = []
        for a in group.people():
            for b in open_row(wishes_of(group), a):
                same = plain_calm(plain_struck(group, a, b)) == plain_calm(group)
                self.assertIs(needless(group, a, b), same)
                told.append(same)
        return told

    def test_against_all_dealings(self):
        for check in (self.check_harmless, self.check_needless):
            told = [same for group in small_groups() if len(group) < 7 for same in check(group)]
            self.assertGreater(min(told.count(True), told.count(False)), 50)

    def test_eight_people(self):
        group = two_sides(4)
        self.assertIs(needless(group, "ann", "eve"), plain_calm(plain_struck(group, "ann", "eve")) == plain_calm(group))
        self.assertIs(harmless(group, "ann", 0), plain_calm(plain_exchanged(group, "ann", 0)) == plain_calm(group))
        self.assertEqual([needless(everybody(8), "ann", "bob"), needless(everybody(8), "ann", "hal")], [False, True])
        self.assertEqual([harmless(everybody(8), "ann", 0), harmless(everybody(8), "ann", 5)], [False, True])

    def test_known_answers(self):
        # Ann and bob are in no calm dealing of the three, because there is none; without them there is one.
        self.assertEqual([needless(triangle(), "ann", "bob"), harmless(triangle(), "ann", 0)], [False, False])
        self.assertEqual([needless(TWO, "ann", "bob"), needless(TWO, "bob", "ann")], [False, False])
        self.assertEqual([needless(square(), "ann", "bob"), harmless(square(), "cat", 0)], [False, False])

    def test_nobody(self):
        for value in any_values() + ["eve", 0, ("ann", "bob")]:
            with self.subTest(value=value):
                raises(self, NoPerson, {"value": value}, harmless, square(), value, 0)
                raises(self, NoPerson, {"value": value}, harmless, square(), value, "ann")
                raises(self, NoPerson, {"value": value}, needless, square(), value, "ann")
                raises(self, NoPerson, {"value": value}, needless, square(), "ann", value)
                raises(self, NoPerson, {"value": value}, needless, square(), value, "eve")
        for group in (EMPTY, everybody(9), ring_group(9)):
            raises(self, NoPerson, {"value": "zoe"}, harmless, group, "zoe", 0)
            raises(self, NoPerson, {"value": "zoe"}, needless, group, "zoe", "ann")

    def test_bad_places(self):
        for k in any_values() + [1, 2, -1, "0", [0], 10 ** 40]:
            with self.subTest(k=k):
                raises(self, BadPlace, {"value": k}, harmless, square(), "ann", k)
                raises(self, BadPlace, {"value": k}, harmless, ring_group(9), "ann", k)
        raises(self, BadPlace, {"value": 0}, harmless, ONE, "ann", 0)
        raises(self, BadPlace, {"value": 0}, harmless, TWO, "ann", 0)
        raises(self, BadPlace, {"value": 6}, harmless, everybody(8), "ann", 6)
        raises(self, BadPlace, {"value": 15}, harmless, everybody(16), "ann", 15)

    def test_not_open(self):
        for a, b in (("ann", "cat"), ("ann", "ann"), ("bob", "dan")):
            raises(self, NotOpen, {"one": a, "other": b}, needless, square(), a, b)
        raises(self, NotOpen, {"one": "bob", "other": "ann"}, needless, APART, "bob", "ann")
        raises(self, NotOpen, {"one": "ann", "other": "cat"}, needless, ring_group(9), "ann", "cat")

    def test_nine_people(self):
        for group in (everybody(9), everybody(16), ring_group(9), ring_group(3, 3, 3)):
            raises(self, TooMany, {"most": 8}, harmless, group, "ann", 0)
            raises(self, TooMany, {"most": 8}, needless, group, "ann", "bob")


class Core(unittest.TestCase):

    def test_against_all_dealings(self):
        shorter = 0
        for group in small_groups():
            if len(group) < 7:
                self.assertTrue(core(group) == plain_core(group))
                shorter += len(core(group).pairs()) < len(group.pairs())
        self.assertGreater(shorter, 50)

    def test_seven_and_eight_people(self):
        for group in random_groups(231, 2, 7, 7) + [ring_group(3, 4), ring_group(4, 4), two_sides(4)]:
            self.assertTrue(core(group) == plain_core(group))

    def test_known_cores(self):
        for group in (EMPTY, ONE, TWO, APART, square()):
            self.assertTrue(core(group) == group)
        self.assertEqual(core(everybody(8)).pairs(), [("ann", "bob"), ("cat", "dan"), ("eve", "fay"), ("gus", "hal")])

    def test_who_is_struck(self):
        # The lesser person of the pair loses the wish; the other one keeps it, and so do wishes that nobody answers.
        made = core(everybody(3))
        self.assertEqual([made.wishes("ann"), made.wishes("bob"), made.wishes("cat")], [["bob"], ["ann"], ["ann", "bob"]])
        group = Group(("cat", "bob", "ann"), {"ann": ["cat", "bob"], "bob": ["ann"], "cat": []})
        self.assertTrue(core(group) == group)

    def test_each_pair_is_asked_in_the_group_as_it_then_is(self):
        # In each of these groups, a pair that is needless at first is not needless any more when its turn comes.
        later = 0
        for group in random_groups(232, 60, 4, 5):
            at_once = [pair for pair in group.pairs() if needless(group, *pair)]
            later += len(core(group).pairs()) != len(group.pairs()) - len(at_once)
        self.assertGreater(later, 3)

    def test_no_calm_dealing(self):
        made = core(triangle())
        self.assertEqual([plain_calm(made), made.pairs()], [[], triangle().pairs()])

    def test_nine_people(self):
        apart = Group(NAMES[:9], {a: [] for a in NAMES[:9]})
        for group in (everybody(9), everybody(16), ring_group(9), apart):
            raises(self, TooMany, {"most": 8}, core, group)

    def test_the_group_stays(self):
        group = everybody(4)
        core(group)
        self.assertTrue(group == everybody(4))


class Mend(unittest.TestCase):

    def check(self, group):
        want = plain_mends(group)
        told = [next((way for way in want[:most + 1] if way is not None), None) for most in range(3)]
        self.assertEqual([mend(group, most=most) for most in range(3)], told)
        self.assertEqual(mend(group), told[2])
        return "never" if told[2] is None else len(told[2])

    def test_against_all_lists(self):
        lengths = [self.check(group) for group in random_groups(241, 150, 0, 5) + hard_to_mend()]
        self.assertGreater(lengths.count(0), 20)
        self.assertGreater(lengths.count(1), 5)
        self.assertGreater(lengths.count(2), 1)

    def test_known_lists(self):
        self.assertEqual([mend(triangle(), most=most) for most in range(3)], [None, [("ann", 0)], [("ann", 0)]])
        two = mend(ring_group(3, 3))
        self.assertEqual([mend(ring_group(3, 3), most=1), two], [None, [("ann", 0), ("dan", 0)]])
        for group in (EMPTY, ONE, TWO, APART, square(), everybody(6), two_sides(3)):
            self.assertEqual([mend(group), mend(group, most=0)], [[], []])

    def test_none(self):
        for group in renamed_groups(242, stiff(), 3):
            self.assertEqual([mend(group), mend(group, most=2), self.check(group)], [None, None, "never"])

    def test_bad_most(self):
        for most in any_values() + [3, -1, -2, "2", [2], (0,), {"most": 2}]:
            with self.subTest(most=most):
                for group in (triangle(), square(), EMPTY, everybody(7), everybody(16)):
                    raises(self, BadMost, {"value": most}, mend, group, most=most)

    def test_seven_people(self):
        for group in (everybody(7), everybody(16), ring_group(7), ring_group(4, 3)):
            raises(self, TooMany, {"most": 6}, mend, group)
            for most in range(3):
                raises(self, TooMany, {"most": 6}, mend, group, most=most)

    def test_most_by_keyword_alone(self):
        with self.assertRaises(TypeError):
            mend(triangle(), 1)

    def test_answers_may_change(self):
        group = triangle()
        mend(group).append(("bob", 0))
        mend(square()).append(("bob", 0))
        self.assertEqual([mend(group), mend(square())], [[("ann", 0)], []])
        self.assertTrue(group == triangle())


if __name__ == "__main__":
    unittest.main()
