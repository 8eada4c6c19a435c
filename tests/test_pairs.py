"""Points 3, 4, 5 and 19 to 23: pairs of partners, and what stands in calm dealings together."""

import copy
import itertools
import random
import unittest

from helpers import NAMES, any_values, calm_groups, everybody, open_rows, plain_calm_dicts, plain_quarrels, raises
from helpers import renamed_groups, ring_group, square, triangle, turned, two_sides, uneven
from quietpairs.errors import NoCalm, NoPerson, NotCalm, TooMany
from quietpairs.groups import Group
from quietpairs.pairs import best, both, by_table, may, middle, possible, sure, table, with_pair, worst

EMPTY = Group((), {})
ONE = Group(("ann",), {"ann": []})
TWO = Group(("bob", "ann"), {"ann": ["bob"], "bob": ["ann"]})
APART = Group(("bob", "ann"), {"ann": ["bob"], "bob": []})
WITH_ANN = [lambda group, a: may(group, a), lambda group, a: best(group, a), lambda group, a: worst(group, a),
            lambda group, a: with_pair(group, a, "ann"), lambda group, a: with_pair(group, "ann", a),
            lambda group, a: both(group, a, "ann", "ann", "ann"), lambda group, a: both(group, "ann", a, "ann", "ann"),
            lambda group, a: both(group, "ann", None, a, "ann"), lambda group, a: both(group, "ann", None, "ann", a)]


def dearest_first(group, dealings, a):
    """The partners of a person in these dealings, dearest first, read off the wishes alone."""
    return [b for b in group.wishes(a) if any(x[a] == b for x in dealings)]


def pairs_of(people):
    """All tuples of two people, the lesser one first."""
    return list(itertools.combinations(sorted(people), 2))


def square_dealing(*ways):
    """The calm dealing of a group of squares in which each square goes one way or the other."""
    x = {}
    for k, way in enumerate(ways):
        a, b, c, d = NAMES[4 * k:4 * k + 4]
        x.update({a: b, b: a, c: d, d: c} if way else {a: d, d: a, b: c, c: b})
    return x


class Standing(unittest.TestCase):

    def check(self, group, dealings):
        stood = {pair for a, b in pairs_of(group.people()) for pair in [(a, b)] if any(x[a] == b for x in dealings)}
        always = sorted((a, b) for a, b in stood if all(x[a] == b for x in dealings))
        self.assertEqual(possible(group), sorted(stood))
        self.assertEqual(sure(group), always)
        for a in group:
            row = dearest_first(group, dealings, a)
            self.assertEqual(may(group, a), row)
            self.assertEqual([best(group, a), worst(group, a)], [row[0], row[-1]] if row else [None, None])
            for b in group:
                fits = [x for x in dealings if x[a] == (None if a == b else b)]
                x = with_pair(group, a, b)
                self.assertTrue(x in fits if fits else x is None)
        return len(dealings)

    def test_against_all_dealings(self):
        many = [self.check(group, dealings) for group, dealings in calm_groups()]
        self.assertTrue({1, 2, 3} <= set(many))

    def test_known_pairs(self):
        self.assertEqual(possible(square()), [("ann", "bob"), ("ann", "dan"), ("bob", "cat"), ("cat", "dan")])
        self.assertEqual([sure(square()), sure(ring_group(4, 2, 1))], [[], [("eve", "fay")]])
        self.assertEqual([may(square(), "cat"), best(square(), "cat"), worst(square(), "cat")],
                         [["dan", "bob"], "dan", "bob"])
        self.assertEqual(with_pair(square(), "cat", "bob"), {"ann": "dan", "bob": "cat", "cat": "bob", "dan": "ann"})
        self.assertIsNone(with_pair(square(), "ann", "cat"))
        self.assertIsNone(with_pair(square(), "ann", "ann"))

    def test_alone(self):
        group = ring_group(4, 1, 1)
        self.assertEqual([may(group, "eve"), best(group, "eve"), worst(group, "eve")], [[], None, None])
        self.assertEqual(with_pair(group, "eve", "eve")["eve"], None)
        self.assertEqual(with_pair(group, "eve", "eve")["ann"] in ("bob", "dan"), True)
        self.assertEqual([with_pair(group, "eve", "fay"), with_pair(group, "ann", "eve")], [None, None])

    def test_a_single_partner(self):
        self.assertEqual([may(TWO, "bob"), best(TWO, "bob"), worst(TWO, "bob")], [["ann"], "ann", "ann"])

    def test_small_groups(self):
        self.assertEqual([possible(EMPTY), sure(EMPTY), possible(ONE), sure(ONE)], [[], [], [], []])
        self.assertEqual([may(ONE, "ann"), with_pair(ONE, "ann", "ann")], [[], {"ann": None}])
        self.assertEqual([possible(TWO), sure(TWO)], [[("ann", "bob")], [("ann", "bob")]])
        self.assertEqual([with_pair(TWO, "bob", "ann"), with_pair(TWO, "bob", "bob")],
                         [{"ann": "bob", "bob": "ann"}, None])
        self.assertEqual([possible(APART), sure(APART), with_pair(APART, "ann", "bob")], [[], [], None])
        self.assertEqual(with_pair(APART, "bob", "bob"), {"ann": None, "bob": None})

    def test_ten_people(self):
        group = two_sides(5)
        self.assertEqual([len(possible(group)), sure(group)], [25, []])
        self.assertEqual([may(group, a) for a in group], [group.wishes(a) for a in group])
        self.assertEqual([best(group, "ann"), worst(group, "ann")], ["fay", "joe"])
        self.assertEqual(with_pair(group, "joe", "ann")["bob"], "fay")
        self.assertEqual(sure(everybody(10)), [(NAMES[k], NAMES[k + 1]) for k in range(0, 10, 2)])

    def test_answers_may_change(self):
        group = square()
        for function in (possible, sure, lambda group: may(group, "ann"), lambda group: with_pair(group, "ann", "bob")):
            want = copy.copy(function(group))
            function(group).clear()
            self.assertEqual(function(group), want)
        self.assertTrue(group == square())


class Both(unittest.TestCase):

    def check(self, group, dealings):
        values = group.people() + [None]
        for a, x, b, y in itertools.product(group.people(), values, group.people(), values):
            fits = [found for found in dealings if found[a] == x and found[b] == y]
            found = both(group, a, x, b, y)
            self.assertTrue(found in fits if fits else found is None)

    def test_against_all_dealings(self):
        groups = [(group, dealings) for group, dealings in calm_groups() if len(group) < 6]
        for group, dealings in groups[:40] + groups[-8:]:
            self.check(group, dealings)

    def test_known_answers(self):
        pairs = {"ann": "bob", "bob": "ann", "cat": "dan", "dan": "cat"}
        self.assertEqual(both(square(), "ann", "bob", "dan", "cat"), pairs)
        self.assertEqual(both(square(), "ann", "bob", "ann", "bob"), pairs)
        self.assertIsNone(both(square(), "ann", "bob", "ann", "dan"))
        self.assertIsNone(both(square(), "ann", "ann", "cat", "dan"))
        self.assertIsNone(both(square(), "cat", "dan", "ann", "ann"))
        self.assertIsNone(both(square(), "ann", "ann", "ann", "ann"))
        self.assertIsNone(both(square(), "ann", None, "bob", "cat"))
        self.assertEqual(both(APART, "ann", None, "bob", None), {"ann": None, "bob": None})
        self.assertEqual(both(ONE, "ann", None, "ann", None), {"ann": None})

    def test_several_pairs(self):
        # Two squares have four calm dealings; each two choices go together.
        group = ring_group(4, 4)
        for x, y in itertools.product(("bob", "dan"), ("fay", "hal")):
            found = both(group, "ann", x, "eve", y)
            self.assertEqual([found["ann"], found["eve"], plain_quarrels(group, found)], [x, y, []])

    def test_who_is_no_person_from_left_to_right(self):
        raises(self, NoPerson, {"value": "w"}, both, square(), "w", "x", "y", "z")
        raises(self, NoPerson, {"value": "x"}, both, square(), "ann", "x", "y", "z")
        raises(self, NoPerson, {"value": "y"}, both, square(), "ann", None, "y", "z")
        raises(self, NoPerson, {"value": "z"}, both, square(), "ann", "ann", "ann", "z")
        raises(self, NoPerson, {"value": None}, both, square(), None, None, "ann", None)
        raises(self, NoPerson, {"value": None}, both, square(), "ann", None, None, None)

    def test_answers_may_change(self):
        group = square()
        both(group, "ann", "bob", "ann", "bob").clear()
        self.assertEqual(len(both(group, "ann", "bob", "ann", "bob")), 4)


class Persons(unittest.TestCase):

    def test_nobody(self):
        for value in any_values() + ["eve", 0, ("ann", "bob"), ["ann"]]:
            with self.subTest(value=value):
                for index, function in enumerate(WITH_ANN):
                    if value is not None or index not in (6, 8):
                        raises(self, NoPerson, {"value": value}, function, square(), value)

    def test_nobody_comes_before_all_else(self):
        self.assertEqual(best(everybody(10), "ann"), "bob")
        for group in (everybody(11), everybody(16), triangle(), ring_group(11)):
            for function in WITH_ANN:
                raises(self, NoPerson, {"value": "zoe"}, function, group, "zoe")
        raises(self, NoPerson, {"value": "ann"}, may, EMPTY, "ann")

    def test_the_first_of_two(self):
        raises(self, NoPerson, {"value": 1}, with_pair, square(), 1, 2)
        raises(self, NoPerson, {"value": 2}, with_pair, square(), "ann", 2)
        raises(self, NoPerson, {"value": 2}, with_pair, everybody(11), "ann", 2)

    def test_the_value_is_a_copy(self):
        value = ["ann"]
        with self.assertRaises(NoPerson) as caught:
            may(square(), value)
        value.append("bob")
        self.assertEqual(caught.exception.value, ["ann"])


class Limits(unittest.TestCase):

    def all_functions(self):
        functions = [possible, sure, table, lambda group: by_table(group, 3), lambda group: by_table(group, {})]
        functions.extend([lambda group: by_table(group, {a: None for a in group})])
        functions.extend([lambda group: both(group, "ann", "bob", "ann", "cat")])
        return functions + [lambda group, function=function: function(group, "ann") for function in WITH_ANN]

    def test_eleven_people(self):
        for group in (everybody(11), everybody(16), ring_group(4, 4, 3), ring_group(11)):
            for function in self.all_functions():
                raises(self, TooMany, {"most": 10}, function, group)

    def test_no_calm_dealing(self):
        for group in (triangle(), ring_group(3, 4, 3), ring_group(9, 1)):
            for function in self.all_functions():
                raises(self, NoCalm, {}, function, group)


class Table(unittest.TestCase):

    def check(self, group, dealings):
        want = {(a, b): sorted({(x[a], x[b]) for x in dealings}) for a, b in pairs_of(group.people())}
        self.assertEqual(table(group), want)

    def test_against_all_dealings(self):
        for group, dealings in calm_groups():
            self.check(group, dealings)

    def test_known_tables(self):
        self.assertEqual([table(EMPTY), table(ONE)], [{}, {}])
        self.assertEqual(table(TWO), {("ann", "bob"): [("bob", "ann")]})
        self.assertEqual(table(APART), {("ann", "bob"): [(None, None)]})
        self.assertEqual(table(square())[("ann", "bob")], [("bob", "ann"), ("dan", "cat")])
        self.assertEqual(len(table(two_sides(5))), 45)

    def test_alone(self):
        group = ring_group(4, 1, 1)
        told = table(group)
        self.assertEqual(told[("ann", "eve")], [("bob", None), ("dan", None)])
        self.assertEqual(told[("eve", "fay")], [(None, None)])
        group = ring_group(1, 4)
        self.assertEqual(table(group)[("ann", "bob")], [(None, "cat"), (None, "eve")])

    def test_by_table_is_calm(self):
        for group, dealings in calm_groups():
            values = group.people() + [None]
            if len(group) < 5:
                rows = itertools.product(values, repeat=len(group))
                for x in [dict(zip(group.people(), row)) for row in rows]:
                    self.assertIs(by_table(group, x), x in dealings)
            for x in dealings:
                self.assertIs(by_table(group, x), True)
                self.assertIs(by_table(group, turned(x)), True)

    def test_by_table_asks_two_at_a_time(self):
        # Each value stands in some calm dealing, but the first square would go two ways.
        group = ring_group(4, 4)
        x = {"ann": "bob", "bob": "ann", "cat": "dan", "dan": "cat",
             "eve": "fay", "fay": "eve", "gus": "hal", "hal": "gus"}
        self.assertIs(by_table(group, x), True)
        for a, b in (("ann", "dan"), ("hal", "eve")):
            self.assertIs(by_table(group, {**x, a: b}), False)

    def test_mixed_values(self):
        source = random.Random(131)
        for group, dealings in calm_groups():
            for _ in range(20):
                x = {a: source.choice(dealings)[a] for a in group}
                self.assertIs(by_table(group, x), x in dealings)

    def test_any_value(self):
        pairs = {"ann": "bob", "bob": "ann", "cat": "dan", "dan": "cat"}
        near = [{**pairs, "eve": None}, {a: pairs[a] for a in ("ann", "bob", "cat")}, (("ann", "bob"), ("cat", "dan")),
                list(pairs), {**pairs, "cat": None, "dan": None}, {a: a for a in pairs}, dict.fromkeys(pairs)]
        for x in any_values() + near:
            with self.subTest(x=x):
                self.assertIs(by_table(square(), x), False)
                self.assertIs(by_table(EMPTY, x), x == {})
        for value in any_values() + ["eve", 0, ["bob"], ("bob",)]:
            with self.subTest(value=value):
                self.assertIs(by_table(square(), {**pairs, "ann": value}), False)
                self.assertIs(by_table(ONE, {"ann": value}), value is None)

    def test_arguments_and_answers(self):
        group, x = square(), {"ann": "bob", "bob": "ann", "cat": "dan", "dan": "cat"}
        by_table(group, x)
        self.assertEqual(x, {"ann": "bob", "bob": "ann", "cat": "dan", "dan": "cat"})
        told = table(group)
        told[("ann", "bob")].clear()
        told.clear()
        self.assertEqual(table(group)[("ann", "bob")], [("bob", "ann"), ("dan", "cat")])
        self.assertIs(by_table(group, x), True)


class Middle(unittest.TestCase):

    def check(self, group, one, two, three):
        kept = copy.deepcopy([one, two, three])
        x = middle(group, one, two, three)
        self.assertEqual([one, two, three], kept)
        self.assertEqual(sorted(x), sorted(group.people()))
        rows = open_rows(group)
        for a in group:
            partners = [one[a], two[a], three[a]]
            self.assertIn(x[a], partners)
            dearer = [b for b in partners if b != x[a] and rows[a].index(b) < rows[a].index(x[a])]
            less = [b for b in partners if b != x[a] and rows[a].index(b) > rows[a].index(x[a])]
            self.assertTrue(len(dearer) < 2 and len(less) < 2)
        self.assertEqual(plain_quarrels(group, x), [])
        return x

    def test_against_all_dealings(self):
        differs = 0
        for group, dealings in calm_groups():
            for one, two, three in itertools.product(dealings, repeat=3):
                x = self.check(group, one, two, three)
                self.assertIn(x, dealings)
                differs += x not in (one, two, three)
                self.assertEqual(middle(group, turned(one), turned(two), turned(three)), x)

    def test_two_sides(self):
        group = two_sides(3)
        dealings = {}
        for x in plain_calm_dicts(group):
            dealings[x["ann"]] = x
        one, two, three = [dealings[b] for b in group.wishes("ann")]
        for row in itertools.permutations([one, two, three]):
            self.assertEqual(middle(group, *row), two)
        self.assertEqual([middle(group, one, one, three), middle(group, three, one, three)], [one, three])

    def test_a_dealing_that_was_not_passed(self):
        # In each square two of the three dealings go the same way.
        group = ring_group(4, 4, 4)
        rows = [square_dealing(True, False, False), square_dealing(False, True, False),
                square_dealing(False, False, True)]
        self.assertEqual(self.check(group, *rows), square_dealing(False, False, False))

    def test_sixteen_people(self):
        source = random.Random(141)
        for _ in range(20):
            ways = [[source.choice((True, False)) for _ in range(4)] for _ in range(3)]
            x = self.check(ring_group(4, 4, 4, 4), *[square_dealing(*row) for row in ways])
            self.assertEqual(x, square_dealing(*[sorted(row)[1] for row in zip(*ways)]))
        group, rest = ring_group(4, 4, 4, 2, 1, 1), {"mia": "ned", "ned": "mia", "oda": None, "pam": None}
        for ways in itertools.product((True, False), repeat=3):
            rows = [{**square_dealing(*ways), **rest}, {**square_dealing(True, True, True), **rest},
                    {**square_dealing(False, True, False), **rest}]
            self.assertEqual(self.check(group, *rows), {**square_dealing(ways[0], True, ways[2]), **rest})

    def test_eight_dealings(self):
        group = two_sides(8)
        dealings = []
        for k in range(8):
            pairs = {a: group.open_to(a)[k] for a in NAMES[:8]}
            dealings.append({**pairs, **{b: a for a, b in pairs.items()}})
        for row in itertools.product(range(0, 8, 2), repeat=3):
            self.assertEqual(self.check(group, *[dealings[k] for k in row]), dealings[sorted(row)[1]])

    def test_alone_stays_alone(self):
        group = ring_group(4, 1)
        one, two = plain_calm_dicts(group)
        self.assertIsNone(middle(group, one, two, two)["eve"])
        self.assertEqual([middle(EMPTY, {}, {}, {}), middle(ONE, *[{"ann": None}] * 3)], [{}, {"ann": None}])
        self.assertEqual(middle(APART, *[{"ann": None, "bob": None}] * 3), {"ann": None, "bob": None})

    def test_not_calm(self):
        group = square()
        calm, other = plain_calm_dicts(group)
        near = [{**calm, "eve": None}, dict.fromkeys(calm), {**calm, "cat": None, "dan": None}, {**calm, "ann": "dan"},
                {a: a for a in calm}, list(calm), (("ann", "bob"), ("cat", "dan"))]
        for x in any_values() + near:
            with self.subTest(x=x):
                raises(self, NotCalm, {"index": 0}, middle, group, x, calm, other)
                raises(self, NotCalm, {"index": 0}, middle, group, x, x, x)
                raises(self, NotCalm, {"index": 1}, middle, group, calm, x, x)
                raises(self, NotCalm, {"index": 2}, middle, group, calm, other, x)

    def test_no_limit_but_calm_dealings(self):
        x = {a: None for a in NAMES}
        raises(self, NotCalm, {"index": 0}, middle, everybody(16), x, x, x)
        raises(self, NotCalm, {"index": 0}, middle, triangle(), {}, {}, {})
        for many in (10, 11, 16):
            calm = {NAMES[k]: NAMES[k ^ 1] if k ^ 1 < many else None for k in range(many)}
            self.assertEqual(middle(everybody(many), calm, calm, calm), calm)
            raises(self, NotCalm, {"index": 2}, middle, everybody(many), calm, calm, 0)

    def test_arguments_and_answers(self):
        one, two = plain_calm_dicts(square())
        x = middle(square(), one, one, one)
        self.assertEqual(x, one)
        x.clear()
        self.assertEqual(len(one), 4)
        x = middle(square(), one, two, two)
        two["ann"] = None
        self.assertEqual(x["ann"] is None, False)


class Order(unittest.TestCase):

    def test_party_order_means_nothing(self):
        for group, _ in calm_groups()[:60]:
            other = Group(tuple(reversed(group.people())), turned({a: group.wishes(a) for a in group}))
            for function in (possible, sure, table):
                self.assertEqual(function(other), function(group))
            for a in group:
                self.assertEqual(may(other, a), may(group, a))

    def test_wishes_that_are_not_answered(self):
        # Bob is in the wishes of ann, but dearest of those who may be her partner is cat.
        self.assertEqual([may(uneven(), "ann"), possible(uneven())], [["cat"], [("ann", "cat"), ("bob", "dan")]])

    def test_other_names(self):
        for group in renamed_groups(151, two_sides(4), 3):
            self.assertEqual([may(group, a) for a in group], [group.open_to(a) for a in group])


if __name__ == "__main__":
    unittest.main()
