"""Points 3, 4, 5 and 24 to 26: statements, what they tell, and the book of clauses."""

import itertools
import random
import unittest

from helpers import any_values, bad_dealings, calm_groups, everybody, open_rows, plain_calm_dicts, plain_dealings
from helpers import raises, renamed_groups, ring_group, square, triangle, turned, two_sides, uneven
from quietpairs.errors import NoCalm, NoDealing, NoStatement, TooMany
from quietpairs.following import agrees, book, follows, holds, tells
from quietpairs.groups import Group

EMPTY = Group((), {})
ONE = Group(("ann",), {"ann": []})
TWO = Group(("bob", "ann"), {"ann": ["bob"], "bob": ["ann"]})
PAIRS = {"ann": "bob", "bob": "ann", "cat": "dan", "dan": "cat"}
GOOD = ("least", "ann", "bob")


def no_statements():
    """Values that are no statements about the square, some of them only nearly."""
    return any_values() + [
        0, "least", ("least", "ann"), ("least", "ann", "bob", "bob"), ("least", "ann", "cat"), ("least", "ann", "ann"),
        ("least", "ann", None), ("most", "ann", "eve"), ("most", "eve", "ann"), ("more", "ann", "bob"),
        ("LEAST", "ann", "bob"), ("", "ann", "bob"), (None, "ann", "bob"), (0, "ann", "bob"), ("ann", "least", "bob"),
        ["least", "ann", "bob"], ("least", ["ann"], "bob"), ("least", "ann", ["bob"]), (["least"], "ann", "bob"),
        ("least", ("ann", "bob"), "bob"), ("least", "ann", ("ann", "bob")), (("least", "ann", "bob"),),
        {"least": "ann"}, ("least", square(), "bob"), ("least", "ann", square()), (square(), "ann", "bob"),
        ("least", "ann", {"ann": "bob"}), ("most", {}, "bob"), ("leastmost", "ann", "bob"), ("l", "ann", "bob"),
    ]


def may_of(group, dealings):
    """The partners of each person in these dealings, dearest first, read off the wishes alone."""
    return {a: [b for b in group.wishes(a) if any(x[a] == b for x in dealings)] for a in group.people()}


def plain_holds(group, x, statement):
    """Whether a statement holds for these values, read off the wishes alone."""
    kind, a, b = statement
    row = open_rows(group)[a]
    # Being alone is less dear than everybody.
    place = len(row) if x[a] is None else row.index(x[a])
    return place <= row.index(b) if kind == "least" else place >= row.index(b)


def all_statements(group, dealings):
    """All statements in sorted order."""
    rows = may_of(group, dealings)
    return sorted((kind, a, b) for kind in ("least", "most") for a in rows for b in rows[a])


def plain_book(group, dealings):
    """The tight clauses, found as point 25 says."""
    rows = may_of(group, dealings)
    true = {s: [plain_holds(group, x, s) for x in dealings] for s in all_statements(group, dealings)}

    def is_bare(kind, a, b):
        return b != (rows[a][-1] if kind == "least" else rows[a][0])

    def is_clause(one, other):
        return all(p or q for p, q in zip(true[one], true[other]))

    def stronger(kind, a, b):
        row = rows[a] if kind == "most" else rows[a][::-1]
        return [(kind, a, y) for x, y in zip(row, row[1:]) if x == b]

    def is_tight(one, other):
        return not any(is_clause(s, other) for s in stronger(*one)) and not any(
            is_clause(one, s) for s in stronger(*other))

    bare = sorted(s for s in true if is_bare(*s))
    return [(one, other) for one, other in itertools.combinations(bare, 2)
            if one[1] != other[1] and is_clause(one, other) and is_tight(one, other)]


class Holds(unittest.TestCase):

    def test_against_the_wishes(self):
        alone = 0
        for group, dealings in calm_groups():
            statements = all_statements(group, dealings)
            others = plain_dealings(group) if len(group) < 6 else dealings
            for x, statement in itertools.product(others, statements):
                self.assertIs(holds(group, x, statement), plain_holds(group, x, statement))
                alone += x[statement[1]] is None
        self.assertGreater(alone, 100)

    def test_known_answers(self):
        group = two_sides(3)
        x = {"ann": "eve", "eve": "ann", "bob": None, "dan": None, "cat": None, "fay": None}
        told = [(kind, b, holds(group, x, (kind, "ann", b))) for kind in ("least", "most") for b in group.wishes("ann")]
        self.assertEqual(told, [("least", "dan", False), ("least", "eve", True), ("least", "fay", True),
                                ("most", "dan", True), ("most", "eve", True), ("most", "fay", False)])

    def test_alone(self):
        x = dict.fromkeys(PAIRS)
        for b in ("bob", "dan"):
            self.assertIs(holds(square(), x, ("least", "ann", b)), False)
            self.assertIs(holds(square(), x, ("most", "ann", b)), True)

    def test_partners_of_no_calm_dealing(self):
        # Ann has dan in no calm dealing, and cat in the only one.
        x = {"ann": "dan", "dan": "ann", "bob": None, "cat": None}
        self.assertEqual([holds(uneven(), x, ("least", "ann", "cat")), holds(uneven(), x, ("most", "ann", "cat"))],
                         [False, True])
        raises(self, NoStatement, {}, holds, uneven(), x, ("least", "ann", "dan"))

    def test_no_dealing_comes_first(self):
        for x in any_values() + bad_dealings():
            with self.subTest(x=x):
                raises(self, NoDealing, {}, holds, triangle(), x, 3)
                raises(self, NoDealing, {}, holds, everybody(11), x, 3)
        for x in ({**PAIRS, "ann": "cat"}, {**PAIRS, "eve": None}, dict.fromkeys(PAIRS, "ann"), {}, tuple(PAIRS)):
            raises(self, NoDealing, {}, holds, square(), x, GOOD)

    def test_no_statement(self):
        for statement in no_statements():
            with self.subTest(statement=statement):
                raises(self, NoStatement, {}, holds, square(), PAIRS, statement)
                raises(self, NoStatement, {}, holds, square(), dict.fromkeys(PAIRS), statement)

    def test_keys_in_another_order(self):
        self.assertIs(holds(square(), turned(PAIRS), GOOD), True)
        self.assertEqual(list(PAIRS), ["ann", "bob", "cat", "dan"])


class Tells(unittest.TestCase):

    def check(self, group, dealings):
        statements = all_statements(group, dealings)
        for one in statements:
            # A dealing that speaks against the second statement is one in which the first does not hold.
            where = [x for x in dealings if plain_holds(group, x, one)]
            told = [other for other in statements if all(plain_holds(group, x, other) for x in where)]
            self.assertEqual(follows(group, one), told)
            self.assertIn(one, told)
            for other in statements:
                self.assertIs(tells(group, one, other), other in told)

    def test_against_all_dealings(self):
        for group, dealings in calm_groups():
            if len(group) < 7:
                self.check(group, dealings)

    def test_known_answers(self):
        self.assertIs(tells(square(), ("least", "ann", "bob"), ("least", "cat", "dan")), True)
        self.assertIs(tells(square(), ("least", "ann", "bob"), ("least", "bob", "cat")), False)
        self.assertIs(tells(square(), GOOD, GOOD), True)
        self.assertIs(tells(square(), ("most", "ann", "bob"), ("least", "ann", "bob")), False)
        self.assertIs(tells(square(), ("least", "ann", "dan"), ("most", "ann", "bob")), True)

    def test_several_squares(self):
        group = ring_group(4, 4)
        self.assertIs(tells(group, ("least", "ann", "bob"), ("least", "eve", "fay")), False)
        self.assertIs(tells(group, ("least", "ann", "bob"), ("least", "eve", "hal")), True)

    def test_no_statement(self):
        for statement in no_statements():
            with self.subTest(statement=statement):
                raises(self, NoStatement, {}, tells, square(), statement, GOOD)
                raises(self, NoStatement, {}, tells, square(), GOOD, statement)
                raises(self, NoStatement, {}, tells, square(), statement, statement)
                raises(self, NoStatement, {}, follows, square(), statement)

    def test_no_statements_at_all(self):
        for group in (EMPTY, ONE, Group(("ann", "bob"), {"ann": ["bob"], "bob": []})):
            raises(self, NoStatement, {}, follows, group, ("least", "ann", "bob"))
            raises(self, NoStatement, {}, follows, group, ("most", "ann", None))

    def test_who_is_alone_has_no_statements(self):
        group = ring_group(4, 1)
        raises(self, NoStatement, {}, tells, group, GOOD, ("most", "eve", "ann"))
        raises(self, NoStatement, {}, tells, group, ("most", "eve", None), GOOD)
        self.assertEqual(len(follows(group, ("least", "ann", "dan"))), 8)

    def test_ten_people(self):
        # Who likes ann least is her partner where she has the dearest one.
        group = two_sides(5)
        self.assertIs(tells(group, ("least", "ann", "gus"), ("most", "fay", "eve")), True)
        self.assertIs(tells(group, ("least", "ann", "gus"), ("most", "fay", "ann")), False)
        self.assertIs(tells(group, ("most", "fay", "eve"), ("least", "ann", "gus")), True)
        self.assertEqual(len(follows(group, ("least", "ann", "joe"))), 20)


class Book(unittest.TestCase):

    def test_against_all_dealings(self):
        lengths = set()
        for group, dealings in calm_groups():
            told = book(group)
            self.assertEqual(told, plain_book(group, dealings))
            lengths.add(len(told))
        self.assertGreater(len(lengths), 3)

    def test_larger_books(self):
        for group in renamed_groups(161, two_sides(4), 2) + [two_sides(5), ring_group(4, 4), ring_group(4, 4, 1, 1)]:
            self.assertEqual(book(group), plain_book(group, plain_calm_dicts(group)))

    def test_known_books(self):
        for group in (EMPTY, ONE, TWO, everybody(5), everybody(10), uneven()):
            self.assertEqual(book(group), [])
        told = book(square())
        self.assertEqual(told[0], (("least", "ann", "bob"), ("least", "bob", "cat")))
        self.assertEqual(len(told), 12)
        for one, other in told:
            self.assertTrue(one < other and one[1] != other[1])

    def test_statements_of_one_person_make_no_clause(self):
        self.assertNotIn((("least", "ann", "bob"), ("most", "ann", "dan")), book(square()))

    def test_clauses_that_are_not_tight(self):
        # In three calm dealings that stand in a row, the middle partner gives clauses that are not tight.
        group = two_sides(3)
        clause = (("least", "ann", "eve"), ("least", "dan", "ann"))
        told = book(group)
        self.assertNotIn(clause, told)
        self.assertEqual([one for one in told if one[0] == ("least", "ann", "dan") and one[1][1] == "dan"],
                         [(("least", "ann", "dan"), ("least", "dan", "cat"))])


class Agrees(unittest.TestCase):

    def test_agrees_is_calm(self):
        for group, dealings in calm_groups():
            values = group.people() + [None]
            if len(group) < 5:
                rows = itertools.product(values, repeat=len(group))
                for x in [dict(zip(group.people(), row)) for row in rows]:
                    self.assertIs(agrees(group, x), x in dealings)
            for x in dealings:
                self.assertIs(agrees(group, x), True)
                self.assertIs(agrees(group, turned(x)), True)

    def test_mixed_values(self):
        source = random.Random(171)
        for group, dealings in calm_groups() + [(group, plain_calm_dicts(group)) for group in [two_sides(4)]]:
            for _ in range(20):
                x = {a: source.choice(dealings)[a] for a in group}
                self.assertIs(agrees(group, x), x in dealings)

    def test_any_value(self):
        near = [{**PAIRS, "eve": None}, {a: PAIRS[a] for a in ("ann", "bob", "cat")}, list(PAIRS),
                (("ann", "bob"), ("cat", "dan")), {**PAIRS, "cat": None, "dan": None}, {a: a for a in PAIRS},
                dict.fromkeys(PAIRS), {**PAIRS, "ann": "dan"}]
        for x in any_values() + near:
            with self.subTest(x=x):
                self.assertIs(agrees(square(), x), False)
                self.assertIs(agrees(EMPTY, x), x == {})
        for value in any_values() + ["eve", 0, ["bob"], ("bob",)]:
            with self.subTest(value=value):
                self.assertIs(agrees(square(), {**PAIRS, "ann": value}), False)
                self.assertIs(agrees(ONE, {"ann": value}), value is None)

    def test_alone(self):
        group = ring_group(4, 1)
        self.assertIs(agrees(group, {**PAIRS, "eve": None}), True)
        self.assertIs(agrees(group, {**PAIRS, "eve": "ann"}), False)


class Limits(unittest.TestCase):

    def functions(self, group):
        alone = {a: None for a in group}
        found = [lambda value=value: tells(group, value, value) for value in (3, GOOD, None)]
        found.extend([lambda value=value: follows(group, value) for value in (3, GOOD, None)])
        found.extend([lambda value=value: agrees(group, value) for value in (3, {}, alone, None)])
        found.extend([lambda value=value: holds(group, alone, value) for value in (3, GOOD, None)])
        return found + [lambda: book(group)]

    def test_eleven_people(self):
        for group in (everybody(11), everybody(16), ring_group(4, 4, 3), ring_group(11)):
            for function in self.functions(group):
                raises(self, TooMany, {"most": 10}, function)

    def test_no_calm_dealing(self):
        for group in (triangle(), ring_group(3, 4, 3), ring_group(9, 1)):
            for function in self.functions(group):
                raises(self, NoCalm, {}, function)

    def test_ten_people(self):
        group = everybody(10)
        self.assertEqual(follows(group, ("least", "ann", "bob")), follows(group, ("most", "joe", "ivy")))
        self.assertEqual([len(follows(group, ("least", "ann", "bob"))), book(group)], [20, []])


class Unchanged(unittest.TestCase):

    def test_arguments_and_answers(self):
        group, x = square(), dict(PAIRS)
        agrees(group, x)
        holds(group, x, GOOD)
        self.assertEqual(x, PAIRS)
        for function in (book, lambda group: follows(group, GOOD)):
            want = list(function(group))
            function(group).clear()
            self.assertEqual(function(group), want)
        self.assertTrue(group == square())

    def test_party_order_means_nothing(self):
        for group, dealings in calm_groups()[:60]:
            other = Group(tuple(reversed(group.people())), turned({a: group.wishes(a) for a in group}))
            self.assertEqual(book(other), book(group))
            for statement in all_statements(group, dealings)[:3]:
                self.assertEqual(follows(other, statement), follows(group, statement))


if __name__ == "__main__":
    unittest.main()
