"""Points 3 to 5, 27 and 28: scales, costs, and the calm dealings that cost least."""

import random
import unittest

from helpers import NAMES, any_values, bad_dealings, calm_groups, everybody, nested, plain_calm_dicts, plain_dealings
from helpers import raises, random_groups, ring_group, square, triangle, turned, two_sides
from quietpairs.cheapest import Scale, least_total, least_worst, total, worst_rank
from quietpairs.errors import BadWeights, NoCalm, NoDealing, TooMany
from quietpairs.groups import Group

EMPTY = Group((), {})
ONE = Group(("ann",), {"ann": []})
TWO = Group(("bob", "ann"), {"ann": ["bob"], "bob": ["ann"]})
PAIRS = {"ann": "bob", "bob": "ann", "cat": "dan", "dan": "cat"}
HUGE = 7 ** 400


def place(group, x, a):
    """The index of the partner among the open people, read off the wishes alone."""
    return [b for b in group.wishes(a) if a in group.wishes(b)].index(x[a])


def plain_cost(group, x, weights, rest):
    """The cost of a dealing, read off the wishes alone."""
    return sum(place(group, x, a) * weights.get(a, rest) for a in x if x[a] is not None)


def plain_worst(group, x):
    """The greatest rank of a partner, read off the wishes alone."""
    return max([place(group, x, a) for a in x if x[a] is not None] + [0])


def drawn_weights(source):
    """Weights of some names and of the rest, some of them 0 and some very large."""
    sizes = (0, 1, 2, 3, 10, 10 ** 12, HUGE)
    return {a: source.choice(sizes) for a in NAMES if source.random() < 0.6}, source.choice(sizes)


class Scales(unittest.TestCase):

    def test_weights(self):
        scale = Scale({"ann": 5, "zebra": 0, "people": HUGE}, rest=2)
        told = [scale.weight(name) for name in ("ann", "zebra", "people", "bob", "a", "abcdefgh")]
        self.assertEqual(told, [5, 0, HUGE, 2, 2, 2])
        self.assertEqual([scale.weight(name="ann"), Scale(weights={}, rest=0).weight("ann")], [5, 0])
        self.assertEqual([Scale({}).weight("ann"), Scale({"ann": 0}).weight("ann"), Scale({"ann": 0}).weight("bob")],
                         [1, 0, 1])

    def test_rest_by_keyword_alone(self):
        with self.assertRaises(TypeError):
            Scale({}, 2)

    def test_weights_of_another_kind(self):
        for value in any_values() + [0, "ann", ["ann", 1], (("ann", 1),), [("ann", 1)]]:
            if not isinstance(value, dict):
                with self.subTest(value=value):
                    raises(self, BadWeights, {"name": ""}, Scale, value)
                    raises(self, BadWeights, {"name": ""}, Scale, value, rest=-1)

    def test_keys_that_are_no_names(self):
        keys = [None, True, 0, 1, "", "Ann", "ann1", "ann bob", " ann", "ann ", "ann\n", "abcdefghi", ("ann",), ()]
        for key in keys:
            with self.subTest(key=key):
                raises(self, BadWeights, {"name": ""}, Scale, {key: 1})
                # A key that is no name is told before a value that does not fit.
                raises(self, BadWeights, {"name": ""}, Scale, {"ann": -1, key: 1})
                raises(self, BadWeights, {"name": ""}, Scale, {key: -1, "ann": -1}, rest=None)

    def test_rest_that_does_not_fit(self):
        for rest in any_values() + ["1", [0], (1,), {"ann": 1}]:
            if rest not in (99, 10 ** 30) or isinstance(rest, bool):
                with self.subTest(rest=rest):
                    raises(self, BadWeights, {"name": ""}, Scale, {}, rest=rest)
                    raises(self, BadWeights, {"name": ""}, Scale, {"ann": 1}, rest=rest)
                    raises(self, BadWeights, {"name": ""}, Scale, {"ann": -1}, rest=rest)

    def test_values_that_do_not_fit(self):
        for value in any_values() + [-HUGE, "1", [0], (1,)]:
            if value not in (99, 10 ** 30) or isinstance(value, bool):
                with self.subTest(value=value):
                    raises(self, BadWeights, {"name": "bob"}, Scale, {"eve": value, "cat": 1, "bob": value})
                    raises(self, BadWeights, {"name": "zebra"}, Scale, {"zebra": value, "ann": 0}, rest=0)
        raises(self, BadWeights, {"name": "ann"}, Scale, nested("dict", 90))

    def test_sum(self):
        one, other = Scale({"ann": 5, "bob": 0}, rest=2), Scale({"bob": 7, "cat": HUGE}, rest=3)
        names = ("ann", "bob", "cat", "dan")
        self.assertEqual([(one + other).weight(name) for name in names], [8, 7, 2 + HUGE, 5])
        self.assertEqual([(other + one).weight(name) for name in names], [8, 7, 2 + HUGE, 5])
        self.assertEqual([one.weight(name) for name in names], [5, 0, 2, 2])
        self.assertEqual([other.weight(name) for name in names], [3, 7, HUGE, 3])
        self.assertEqual([(one + one + one).weight(name) for name in names], [15, 0, 6, 6])

    def test_drawn_sums(self):
        source = random.Random(201)
        for _ in range(100):
            (some, rest), (more, other) = drawn_weights(source), drawn_weights(source)
            made = Scale(some, rest=rest) + Scale(more, rest=other)
            want = {a: some.get(a, rest) + more.get(a, other) for a in NAMES}
            self.assertEqual({a: made.weight(a) for a in NAMES}, want)
            self.assertEqual(made.weight("zebra"), rest + other)
            self.assertTrue(made == Scale(want, rest=rest + other))
            self.assertTrue(made == Scale(more, rest=other) + Scale(some, rest=rest))

    def test_equal(self):
        self.assertIs(Scale({}) == Scale({}, rest=1), True)
        self.assertIs(Scale({}) == Scale({}, rest=2), False)
        self.assertIs(Scale({"ann": 1, "bob": 2}) == Scale({"bob": 2, "ann": 1}), True)
        self.assertIs(Scale({"ann": 1, "bob": 2}) == Scale({"bob": 2}), True)
        self.assertIs(Scale({"bob": 2}) == Scale({"ann": 1, "bob": 2}), True)
        self.assertIs(Scale({"ann": 0}, rest=0) == Scale({"bob": 0, "cat": 0}, rest=0), True)
        self.assertIs(Scale({"ann": 2}) == Scale({"ann": 3}), False)
        self.assertIs(Scale({"ann": 2}) == Scale({"bob": 2}), False)
        # The two differ for a name that is no key of either.
        self.assertIs(Scale({"ann": 1}, rest=0) == Scale({"ann": 1}), False)
        self.assertIs(Scale({"ann": 1}) != Scale({}), False)
        self.assertIs(Scale({"ann": HUGE}) == Scale({"ann": HUGE + 1}), False)

    def test_only_scales_are_compared(self):
        for value in any_values() + [1, {"ann": 1}, square()]:
            self.assertIs(Scale({}) == value, False)

    def test_weights_may_change_afterwards(self):
        weights = {"bob": 3, "ann": 5}
        scale = Scale(weights, rest=2)
        weights["ann"] = 0
        weights["cat"] = 9
        del weights["bob"]
        self.assertEqual([scale.weight("ann"), scale.weight("bob"), scale.weight("cat")], [5, 3, 2])
        self.assertTrue(scale == Scale({"ann": 5, "bob": 3}, rest=2))

    def test_weights_stay(self):
        weights = {"bob": 3, "ann": 2}
        scale = Scale(weights, rest=2)
        scale(TWO, {"ann": "bob", "bob": "ann"})
        self.assertTrue((scale + scale).weight("ann") == 4)
        self.assertEqual(list(weights.items()), [("bob", 3), ("ann", 2)])


class Costs(unittest.TestCase):

    def test_against_the_wishes(self):
        source = random.Random(202)
        for group in random_groups(203, 60, 0, 6):
            weights, rest = drawn_weights(source)
            scale = Scale(weights, rest=rest)
            for x in plain_dealings(group):
                self.assertEqual(scale(group, x), plain_cost(group, x, weights, rest))
                self.assertEqual(scale(group, turned(x)), plain_cost(group, x, weights, rest))
                self.assertEqual(total(group, x), plain_cost(group, x, {}, 1))
                self.assertEqual(worst_rank(group, x), plain_worst(group, x))

    def test_known_costs(self):
        self.assertEqual([Scale({"ann": 5, "bob": 7}, rest=2)(square(), PAIRS), total(square(), PAIRS)], [9, 2])
        x = {"ann": "dan", "dan": "ann", "bob": None, "cat": None}
        self.assertEqual([Scale({"ann": 5}, rest=2)(square(), x), total(square(), x), worst_rank(square(), x)],
                         [5, 1, 1])
        self.assertEqual([Scale({}, rest=0)(square(), PAIRS), Scale({"bob": HUGE})(square(), PAIRS)], [0, HUGE + 1])

    def test_a_wish_that_is_not_answered_has_no_rank(self):
        group = Group(("ann", "bob", "cat"), {"ann": ["cat", "bob"], "bob": ["ann"], "cat": []})
        x = {"ann": "bob", "bob": "ann", "cat": None}
        self.assertEqual([Scale({"ann": 5})(group, x), total(group, x), worst_rank(group, x)], [0, 0, 0])

    def test_small_and_large_groups(self):
        for group, x in ((EMPTY, {}), (ONE, {"ann": None}), (TWO, {"ann": None, "bob": None}),
                         (TWO, {"ann": "bob", "bob": "ann"}), (everybody(16), dict.fromkeys(NAMES))):
            self.assertEqual([Scale({"ann": HUGE})(group, x), total(group, x), worst_rank(group, x)], [0, 0, 0])
        x = {a: b for k in range(8) for a, b in ((NAMES[k], NAMES[15 - k]), (NAMES[15 - k], NAMES[k]))}
        self.assertEqual([total(everybody(16), x), worst_rank(everybody(16), x)], [8 * 14, 14])
        self.assertEqual(Scale({"ann": HUGE}, rest=0)(everybody(16), x), 14 * HUGE)

    def test_names_of_nobody(self):
        self.assertEqual(Scale({"zebra": 9, "eve": 4})(square(), PAIRS), 2)

    def test_no_dealing(self):
        for x in any_values() + bad_dealings():
            with self.subTest(x=x):
                for function in (Scale({"ann": 2}), Scale({}, rest=0), total, worst_rank):
                    raises(self, NoDealing, {}, function, triangle(), x)
        for function in (Scale({}), total, worst_rank):
            raises(self, NoDealing, {}, function, EMPTY, {"ann": None})
            raises(self, NoDealing, {}, function, ONE, {})
            raises(self, NoDealing, {}, function, everybody(16), {"ann": None})

    def test_dealings_stay(self):
        x = dict(PAIRS)
        self.assertEqual([total(square(), x), worst_rank(square(), x), Scale({})(square(), x)], [2, 1, 2])
        self.assertEqual(list(x.items()), list(PAIRS.items()))


class Least(unittest.TestCase):

    def check_total(self, group, dealings, weights, rest):
        number, x = least_total(group, Scale(weights, rest=rest))
        costs = [plain_cost(group, y, weights, rest) for y in dealings]
        self.assertIn(x, dealings)
        self.assertEqual([number, plain_cost(group, x, weights, rest)], [min(costs)] * 2)
        return len(set(costs)) > 1

    def check_worst(self, group, dealings):
        number, x = least_worst(group)
        worsts = [plain_worst(group, y) for y in dealings]
        self.assertIn(x, dealings)
        self.assertEqual([number, plain_worst(group, x)], [min(worsts)] * 2)
        return len(set(worsts)) > 1

    def test_against_all_dealings(self):
        source = random.Random(204)
        chosen = [0, 0]
        for group, dealings in calm_groups():
            for _ in range(3):
                chosen[0] += self.check_total(group, dealings, *drawn_weights(source))
            chosen[1] += self.check_worst(group, dealings)
        self.assertGreater(min(chosen), 10)

    def test_ten_people(self):
        source = random.Random(205)
        for group in (two_sides(5), ring_group(4, 4, 1, 1), everybody(10)):
            dealings = plain_calm_dicts(group)
            for _ in range(5):
                self.check_total(group, dealings, *drawn_weights(source))
            self.check_worst(group, dealings)

    def test_known_answers(self):
        number, x = least_total(square(), Scale({"ann": 5}))
        self.assertEqual([number, x], [2, PAIRS])
        number, x = least_total(square(), Scale({"bob": 5}))
        self.assertEqual([number, x], [2, {"ann": "dan", "dan": "ann", "bob": "cat", "cat": "bob"}])
        self.assertEqual([least_total(square(), Scale({}, rest=0))[0], least_worst(square())[0]], [0, 1])
        # In the dealing in the middle nobody has the least dear one.
        self.assertEqual([least_worst(two_sides(3))[0], least_total(two_sides(3), Scale({}))[0]], [1, 6])

    def test_small_groups(self):
        for group, x in ((EMPTY, {}), (ONE, {"ann": None}), (TWO, {"ann": "bob", "bob": "ann"})):
            self.assertEqual([least_total(group, Scale({"ann": HUGE})), least_worst(group)], [(0, x), (0, x)])

    def test_eleven_people(self):
        for group in (everybody(11), everybody(16), ring_group(4, 4, 3), ring_group(11)):
            raises(self, TooMany, {"most": 10}, least_total, group, Scale({}))
            raises(self, TooMany, {"most": 10}, least_worst, group)

    def test_no_calm_dealing(self):
        for group in (triangle(), ring_group(3, 4, 3), ring_group(9, 1)):
            raises(self, NoCalm, {}, least_total, group, Scale({"ann": 0}))
            raises(self, NoCalm, {}, least_worst, group)

    def test_answers_may_change(self):
        group, scale = square(), Scale({"ann": 5})
        least_total(group, scale)[1].clear()
        least_worst(group)[1].clear()
        self.assertEqual([least_total(group, scale), len(least_worst(group)[1])], [(2, PAIRS), 4])
        self.assertTrue(group == square() and scale == Scale({"ann": 5}))


if __name__ == "__main__":
    unittest.main()
