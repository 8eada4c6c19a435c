"""Points 3 to 6 over the whole program: what is passed stays as it is, and what is returned is new."""

import copy
import inspect
import unittest

from helpers import square, triangle, turned, two_sides
from quietpairs import cheapest, dealings, edits, following, halves, leaving, pairs, texts
from quietpairs.cheapest import Scale
from quietpairs.errors import QuietError
from quietpairs.groups import Group
from quietpairs.live import Round
from test_interface import FUNCTIONS

X = {"cat": "dan", "bob": "ann", "ann": "bob", "dan": "cat"}
NEXT = {"cat": "dan", "bob": "cat", "ann": "bob", "dan": "ann"}
WISHES = {"cat": ["dan", "bob"], "bob": ["cat", "ann"], "ann": ["bob", "dan"], "dan": ["ann", "cat"]}
# Functions that may return another value in the next call.
FREE = (dealings.dealing, halves.half, leaving.leavers, leaving.rest_dealing, leaving.most_pairs, pairs.with_pair,
        pairs.both, cheapest.least_total, cheapest.least_worst, edits.parted)
LEAST, MOST = ("least", "ann", "bob"), ("most", "dan", "cat")


def calls():
    """One call of each function and of each method that returns a value, as a function and its arguments."""
    group = square()
    found = [
        (dealings.is_dealing, group, X), (dealings.is_calm, group, X), (dealings.quarrels, group, dict.fromkeys(X)),
        (dealings.as_pairs, group, X), (dealings.from_pairs, group, (("ann", "bob"), ("cat", "dan"))),
        (dealings.dealing, group), (dealings.calm, group), (dealings.count, group), (dealings.first, group),
        (dealings.each_calm, group), (halves.fault, group, NEXT), (halves.is_half, group, NEXT), (halves.half, group),
        (halves.rings, group, NEXT), (halves.paired, group, NEXT), (halves.half_of, group, X), (halves.lots, group),
        (halves.odd, triangle()), (halves.alone, group.without("ann")), (leaving.change, group, "ann"),
        (leaving.changes, group), (leaving.fewest, triangle()), (leaving.leavers, triangle()),
        (leaving.may_leave, triangle(), ["cat", "ann"]), (leaving.rest_dealing, triangle(), ["cat"]),
        (leaving.most_pairs, triangle()), (pairs.possible, group), (pairs.sure, two_sides(1)),
        (pairs.with_pair, group, "ann", "bob"), (pairs.both, group, "ann", "bob", "cat", "dan"),
        (pairs.may, group, "ann"), (pairs.best, group, "ann"), (pairs.worst, group, "ann"), (pairs.table, group),
        (pairs.by_table, group, X), (pairs.middle, group, X, X, X), (following.holds, group, X, LEAST),
        (following.tells, group, LEAST, MOST), (following.follows, group, LEAST), (following.book, group),
        (following.agrees, group, X), (cheapest.total, group, X), (cheapest.worst_rank, group, X),
        (cheapest.least_total, group, Scale({"ann": 3})), (cheapest.least_worst, group),
        (edits.alike, group, square()), (edits.parted, group, group.struck("ann", "bob")),
        (edits.harmless, group, "ann", 0), (edits.needless, group, "ann", "bob"), (edits.core, group),
        (edits.mend, triangle()), (texts.group_text, group), (texts.read_group, texts.group_text(group)),
        (texts.dealing_text, group, X), (texts.read_dealing, group, "ann bob\ncat\ndan\n"),
    ]
    live = Round(triangle())
    found.extend([
        (Scale({"ann": 3}), group, X), (Scale({"ann": 3}).weight, "ann"), (live.half,), (live.odd,), (live.moved,),
        (Group, ("ann", "bob", "cat", "dan"), WISHES), (group.people,), (group.wishes, "ann"), (group.open_to, "ann"),
        (group.rank, "ann", "bob"), (group.pairs,), (group.with_wishes, "ann", ["dan"]), (group.without, "ann"),
        (group.renamed, {"dan": "a", "ann": "b", "cat": "c", "bob": "d"}), (group.inside, ["dan", "ann"]),
        (group.outside, ["dan", "ann"]), (group.exchanged, "ann", 0), (group.struck, "ann", "bob"),
    ])
    return found


def plain(value):
    """The value with its groups, scales and keys written in a way that does not depend on their order."""
    if isinstance(value, Group):
        return "group", value.people(), [value.wishes(a) for a in value.people()]
    if isinstance(value, Scale):
        return "scale", [value.weight(name) for name in ("ann", "bob", "cat", "dan", "zoe")]
    if isinstance(value, dict):
        return "dict", sorted((repr(key), plain(value[key])) for key in value)
    if isinstance(value, (list, tuple)):
        return value.__class__.__name__, [plain(item) for item in value]
    return value


def exact(value):
    """The value with the keys in the order in which they were added."""
    return repr(value) if not isinstance(value, (Group, Scale)) else plain(value)


def parts(value):
    """All lists and dicts in a value."""
    inner = list(value.values()) if isinstance(value, dict) else value if isinstance(value, (list, tuple)) else []
    found = [value] if isinstance(value, (list, dict)) else []
    return found + [part for item in inner for part in parts(item)]


def answer(function, *passed):
    """What the function returns; the items of a generator as a list."""
    told = function(*passed)
    return list(told) if inspect.isgenerator(told) else told


class Whole(unittest.TestCase):

    def test_each_function_is_called(self):
        called = [function for function, *_ in calls()]
        for module, functions in FUNCTIONS.items():
            for name in functions:
                self.assertIn(getattr(module, name), called)

    def test_arguments_stay(self):
        for function, *passed in calls():
            with self.subTest(function):
                before = [exact(value) for value in passed]
                answer(function, *passed)
                self.assertEqual([exact(value) for value in passed], before)

    def test_answers_are_new(self):
        for function, *passed in calls():
            with self.subTest(function):
                one, other = answer(function, *passed), answer(function, *passed)
                held = [id(part) for part in parts(one)]
                self.assertEqual(len(set(held)), len(held))
                for part in parts(other) + parts(passed):
                    self.assertNotIn(id(part), held)

    def test_answers_may_change(self):
        for function, *passed in calls():
            if function not in FREE:
                with self.subTest(function):
                    told = answer(function, *passed)
                    want = plain(told)
                    for part in parts(told):
                        part.clear()
                    self.assertEqual(plain(answer(function, *passed)), want)

    def test_order_of_keys_means_nothing(self):
        for function, *passed in calls():
            if function not in FREE and any(isinstance(value, dict) for value in passed):
                with self.subTest(function):
                    others = [turned(value) if isinstance(value, dict) else value for value in passed]
                    self.assertEqual(plain(answer(function, *others)), plain(answer(function, *passed)))

    def test_order_of_keys_in_wishes_and_weights(self):
        one, other = Group(("ann", "bob", "cat", "dan"), WISHES), Group(("ann", "bob", "cat", "dan"), turned(WISHES))
        self.assertTrue(one == other)
        weights = {"ann": 5, "bob": 0, "cat": 2}
        self.assertEqual(Scale(weights)(one, X), Scale(turned(weights))(other, turned(X)))
        live = Round(one)
        for places in ({"ann": 0, "dan": 1}, {"dan": 1, "ann": 0}):
            live.come("eve", ["ann"], places=places)
            told = plain(live.group)
            live.undo()
            live.become(other)
            self.assertEqual(told, plain(other.joined("eve", ["ann"], places=turned(places))))

    def test_arguments_may_change_afterwards(self):
        wishes, weights = copy.deepcopy(WISHES), {"ann": 5}
        group, scale = Group(("ann", "bob", "cat", "dan"), wishes), Scale(weights)
        live = Round(group)
        wishes["ann"].clear()
        wishes.clear()
        weights["ann"] = 7
        self.assertTrue(group == square() and live.group == square() and scale == Scale({"ann": 5}))
        for part in (group.wishes("ann"), group.open_to("ann"), live.group.wishes("ann"), live.group["ann"]):
            part.clear()
        self.assertTrue(group == square() and live.group == square())

    def test_every_error_is_a_quiet_error(self):
        group = square()
        for function, *passed in (
                (cheapest.total, group, None), (edits.alike, group, triangle()), (edits.harmless, group, "ann", 5),
                (Round(group).undo,), (Round(group).become, 1), (texts.read_group, ""), (Scale, None)):
            with self.assertRaises(QuietError):
                function(*passed)


if __name__ == "__main__":
    unittest.main()
