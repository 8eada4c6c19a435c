"""Points 3 to 5 and 32 to 35: rounds, their deeds, questions and trials."""

import random
import unittest

from helpers import NAMES, any_values, everybody, is_half, is_plain, plain_lots, raises, random_group, random_groups
from helpers import ring_group, some_half, square, triangle, uneven
from quietpairs.errors import BadName, BadPlaces, BadWishes, NoGroup, NoPerson, NoUndo, TooMany
from quietpairs.groups import Group
from quietpairs.live import Round

EMPTY = Group((), {})
ONE = Group(("ann",), {"ann": []})
TWO = Group(("bob", "ann"), {"ann": ["bob"], "bob": ["ann"]})
LOT = ("ann", "bob", "cat")
KNOWN = {}


class Stop(Exception):
    """What a deed of a test raises."""


def plain_odd(group):
    """The odd lots of three or more people, by a search through all dicts."""
    key = repr([(a, group.wishes(a)) for a in group.people()])
    if key not in KNOWN:
        KNOWN[key] = [lot for lot in plain_lots(some_half(group)) if len(lot) > 2]
    return KNOWN[key]


class Model:
    """What the points say of a round, with groups as plain lists and dicts."""

    def __init__(self, group):
        self.people = group.people()
        self.wishes = {a: group.wishes(a) for a in self.people}
        self.past = []
        self.seen = plain_odd(group)

    def group(self):
        return Group(tuple(self.people), self.wishes)

    def state(self):
        return list(self.people), {a: list(row) for a, row in self.wishes.items()}

    def copy(self):
        other = Model(self.group())
        other.past, other.seen = list(self.past), self.seen
        return other

    def become(self, people, wishes):
        self.past.append(self.state())
        self.people, self.wishes = list(people), {a: list(row) for a, row in wishes.items()}

    def wish(self, a, row):
        self.become(self.people, {**self.wishes, a: row})

    def leave(self, a):
        rest = [b for b in self.people if b != a]
        self.become(rest, {b: [c for c in self.wishes[b] if c != a] for b in rest})

    def come(self, name, row, places):
        people, wishes = self.state()
        for a, k in places.items():
            wishes[a].insert(k, name)
        self.become(people + [name], {**wishes, name: row})

    def undo(self):
        self.people, self.wishes = self.past.pop()

    def moved(self):
        now, seen = plain_odd(self.group()), self.seen
        self.seen = now
        return [lot for lot in seen if lot not in now], [lot for lot in now if lot not in seen]


class Drawn(unittest.TestCase):

    def drawn_row(self, source, people, a):
        row = [b for b in people if b != a]
        source.shuffle(row)
        return row if source.random() < 0.8 else row[:source.randint(0, len(row))]

    def check_state(self, live, model):
        self.assertTrue(live.group == model.group())
        self.assertEqual(live.group.people(), model.people)
        self.assertEqual(len(live), len(model.past))

    def do_wish(self, source, live, model):
        if model.people:
            a = source.choice(model.people)
            row = self.drawn_row(source, model.people, a)
            self.assertIsNone(live.wish(a, row))
            model.wish(a, row)
            row.append("zoe")

    def do_come(self, source, live, model):
        if len(model.people) < 6:
            name = source.choice([a for a in NAMES if a not in model.people])
            row = self.drawn_row(source, model.people, name)
            places = {a: source.randint(0, len(model.wishes[a])) for a in model.people if source.random() < 0.8}
            self.assertIsNone(live.come(name, row, places=places))
            model.come(name, row, places)
            row.append("zoe")
            places["zoe"] = 1

    def do_leave(self, source, live, model):
        if len(model.people) > 3 or source.random() < 0.2 and model.people:
            a = source.choice(model.people)
            self.assertIsNone(live.leave(a))
            model.leave(a)

    def do_become(self, source, live, model):
        group = source.choice([random_group(source, source.randint(0, 6), 0.3), triangle(), model.group()])
        self.assertIsNone(live.become(group))
        model.become(group.people(), {a: group.wishes(a) for a in group.people()})
        self.assertTrue(live.group == group)

    def do_undo(self, source, live, model):
        if model.past:
            self.assertIsNone(live.undo())
            model.undo()
        else:
            raises(self, NoUndo, {}, live.undo)

    def do_refused(self, source, live, model):
        value = source.choice([value for value in any_values() if not isinstance(value, Group)])
        raises(self, NoGroup, {}, live.become, value)
        raises(self, NoPerson, {"value": value}, live.wish, value, [])
        raises(self, NoPerson, {"value": value}, live.leave, value)
        raises(self, BadName, {"value": value}, live.come, value, value, places=value)
        if model.people:
            a = source.choice(model.people)
            raises(self, BadWishes, {"person": a}, live.wish, a, [a])
            raises(self, BadName, {"value": a}, live.come, a, [], places={})
            raises(self, BadPlaces, {"person": a}, live.come, "zoe", [a], places={a: len(model.wishes[a]) + 1})
        raises(self, BadWishes, {"person": "zoe"}, live.come, "zoe", ["zoe"], places={})
        raises(self, BadPlaces, {"person": ""}, live.come, "zoe", [], places={"zoe": 0})

    def do_questions(self, source, live, model):
        group = model.group()
        self.assertEqual(live.odd(), plain_odd(group))
        x = live.half()
        self.assertTrue(is_half(group, x) and is_plain(x))
        live.odd().append("zoe")
        live.half().clear()

    def do_moved(self, source, live, model):
        told = live.moved()
        self.assertEqual(told, model.moved())
        self.assertEqual([told.__class__, told[0].__class__, told[1].__class__], [tuple, list, list])
        told[0].append("zoe")
        told[1].append("zoe")

    def do_trial(self, source, live, model, depth=0):
        inner, token, error = model.copy(), [["token"]], Stop()

        def deed(passed):
            self.assertIs(passed, live)
            for _ in range(source.randint(0, 5)):
                if depth < 9 and source.random() < 0.3:
                    self.do_trial(source, live, inner, depth + 1)
                else:
                    self.do_any(source, live, inner)
                self.check_state(live, inner)
            if source.random() < 0.3:
                raise error
            return token

        try:
            self.assertIs(live.tried(deed), token)
            self.assertEqual(token, [["token"]])
        except Stop as caught:
            self.assertIs(caught, error)
        self.check_state(live, model)

    def do_any(self, source, live, model):
        source.choice([self.do_wish, self.do_wish, self.do_come, self.do_leave, self.do_become, self.do_undo,
                       self.do_undo, self.do_refused, self.do_questions, self.do_moved])(source, live, model)

    def test_rows_of_deeds(self):
        source = random.Random(271)
        for group in random_groups(272, 40, 0, 5) + [EMPTY, ONE, TWO, triangle(), square(), ring_group(3, 3)]:
            live, model = Round(group), Model(group)
            other = Round(group)
            self.check_state(live, model)
            for _ in range(40):
                if source.random() < 0.15:
                    self.do_trial(source, live, model)
                else:
                    self.do_any(source, live, model)
                self.check_state(live, model)
            while model.past:
                self.do_undo(source, live, model)
                self.check_state(live, model)
            self.do_undo(source, live, model)
            self.do_moved(source, live, model)
            self.assertTrue(live.group == group)
            self.assertEqual([other.group == group, len(other), other.moved()], [True, 0, ([], [])])

    def test_trials_within_trials(self):
        source = random.Random(273)
        for group in random_groups(274, 20, 3, 5):
            live, model = Round(group), Model(group)
            for _ in range(4):
                self.do_any(source, live, model)
                self.do_trial(source, live, model)
            self.do_moved(source, live, model)


class Deeds(unittest.TestCase):

    def test_each_deed(self):
        live = Round(triangle())
        self.assertIsNone(live.wish("ann", ["cat", "bob"]))
        self.assertTrue(live.group == triangle().with_wishes("ann", ["cat", "bob"]))
        self.assertIsNone(live.come("eve", ["ann", "cat"], places={"cat": 1}))
        self.assertEqual([live.group.people(), live.group.wishes("cat")],
                         [["ann", "bob", "cat", "eve"], ["ann", "eve", "bob"]])
        self.assertIsNone(live.leave("bob"))
        self.assertEqual([live.group.people(), live.group.wishes("cat"), len(live)],
                         [["ann", "cat", "eve"], ["ann", "eve"], 3])
        self.assertIsNone(live.become(EMPTY))
        self.assertEqual([len(live), live.group == EMPTY], [4, True])
        for people in (["ann", "cat", "eve"], ["ann", "bob", "cat", "eve"], ["ann", "bob", "cat"]):
            self.assertIsNone(live.undo())
            self.assertEqual(live.group.people(), people)
        self.assertIsNone(live.undo())
        self.assertEqual([live.group == triangle(), len(live)], [True, 0])

    def test_by_keyword(self):
        live = Round(group=triangle())
        live.come(name="eve", wishes=[], places={})
        live.wish(a="ann", wishes=["eve"])
        live.leave(a="bob")
        live.become(value=live.group)
        self.assertEqual([len(live), live.tried(deed=len)], [4, 4])
        with self.assertRaises(TypeError):
            live.come("fay", [], {})

    def test_a_deed_that_changes_nothing_is_one(self):
        live = Round(triangle())
        live.wish("ann", ["bob", "cat"])
        live.become(live.group)
        live.become(triangle())
        self.assertEqual([len(live), live.group == triangle(), live.moved()], [3, True, ([], [])])
        live.undo()
        self.assertEqual(len(live), 2)

    def test_without_deeds(self):
        for group in (EMPTY, ONE, TWO, triangle(), everybody(16)):
            live = Round(group)
            raises(self, NoUndo, {}, live.undo)
            raises(self, NoUndo, {}, live.tried, lambda live: live.undo())
            self.assertEqual([len(live), live.group == group, live.moved()], [0, True, ([], [])])

    def test_undo_is_no_deed(self):
        live = Round(triangle())
        live.leave("ann")
        live.undo()
        raises(self, NoUndo, {}, live.undo)
        self.assertEqual([len(live), live.group == triangle()], [0, True])
        live.leave("ann")
        live.leave("bob")
        live.undo()
        live.leave("cat")
        live.undo()
        live.undo()
        self.assertEqual([len(live), live.group == triangle()], [0, True])

    def test_many_deeds(self):
        live = Round(square())
        for k in range(3000):
            live.wish("ann", ["bob", "dan"] if k % 2 else ["dan"])
        self.assertEqual(len(live), 3000)
        for _ in range(2999):
            live.undo()
        self.assertEqual([live.group.wishes("ann"), len(live)], [["dan"], 1])

    def test_reading_the_group_is_no_deed(self):
        live = Round(uneven())
        before = live.group
        live.leave("ann")
        self.assertEqual([len(live), before == uneven(), live.group == uneven().without("ann")], [1, True, True])
        with self.assertRaises(AttributeError):
            live.group = triangle()
        self.assertEqual([len(live), live.group == uneven().without("ann")], [1, True])

    def test_arguments_may_change_afterwards(self):
        live, row, places = Round(triangle()), ["cat"], {"cat": 0}
        live.wish("ann", row)
        live.come("eve", row, places=places)
        row.append("zoe")
        places["ann"] = 0
        self.assertEqual([live.group.wishes(a) for a in ("ann", "cat", "eve")],
                         [["cat"], ["eve", "ann", "bob"], ["cat"]])

    def test_arguments_stay(self):
        live, row, places = Round(triangle()), ["cat", "ann"], {"cat": 0, "ann": 1}
        live.come("eve", row, places=places)
        self.assertEqual([row, list(places.items())], [["cat", "ann"], [("cat", 0), ("ann", 1)]])


class Refused(unittest.TestCase):

    def refused(self, error, attributes, group, word, *passed, **named):
        """Check that a deed is refused, and that the round is as it was."""
        live = Round(group)
        live.wish(group.people()[0], [])
        before = live.group
        raises(self, error, attributes, getattr(live, word), *passed, **named)
        self.assertEqual([len(live), live.group == before], [1, True])
        live.undo()
        self.assertTrue(live.group == group)

    def test_wish(self):
        for value in any_values() + ["dan", ("ann", "bob")]:
            with self.subTest(value=value):
                self.refused(NoPerson, {"value": value}, triangle(), "wish", value, ["ann"])
                self.refused(NoPerson, {"value": value}, triangle(), "wish", value, value)
        for value in any_values() + [["bob", "bob"], ["dan"], ("bob",), "bob", ["cat", "ann"]]:
            if value != []:
                with self.subTest(value=value):
                    self.refused(BadWishes, {"person": "ann"}, triangle(), "wish", "ann", value)

    def test_come(self):
        for value in any_values() + ["bob", "cat"]:
            with self.subTest(value=value):
                self.refused(BadName, {"value": value}, triangle(), "come", value, value, places=value)
        for value in any_values() + [["eve"], ["bob", "bob"], ("bob",), "bob"]:
            if value not in ([], ["ann"]):
                with self.subTest(value=value):
                    self.refused(BadWishes, {"person": "eve"}, triangle(), "come", "eve", value, places=value)
        for value in any_values() + [[], {"eve": 0}, {"ann": 0, "dan": 0}, {"ann": -1, "zoe": 0}]:
            if not isinstance(value, dict) or set(value) - {"ann", "bob", "cat"}:
                with self.subTest(value=value):
                    self.refused(BadPlaces, {"person": ""}, triangle(), "come", "eve", [], places=value)
        for value in any_values() + [3, "0", [0]]:
            with self.subTest(value=value):
                places = {"cat": value, "bob": value}
                self.refused(BadPlaces, {"person": "bob"}, triangle(), "come", "eve", [], places=places)

    def test_seventeen_people(self):
        self.refused(TooMany, {"most": 16}, everybody(16), "come", "zoe", [], places={})
        self.refused(TooMany, {"most": 16}, everybody(16), "come", "zoe", ["pam"], places={"pam": 15})
        # All other errors come first.
        self.refused(BadName, {"value": "pam"}, everybody(16), "come", "pam", [], places={})
        self.refused(BadWishes, {"person": "zoe"}, everybody(16), "come", "zoe", ["zoe"], places={})
        self.refused(BadPlaces, {"person": "pam"}, everybody(16), "come", "zoe", [], places={"pam": 16})

    def test_leave(self):
        for value in any_values() + ["dan", ("ann", "bob"), 0]:
            with self.subTest(value=value):
                self.refused(NoPerson, {"value": value}, triangle(), "leave", value)

    def test_become(self):
        for value in any_values() + [0, "ann", [square()], (square(),), {"ann": square()}]:
            if not isinstance(value, Group):
                with self.subTest(value=value):
                    self.refused(NoGroup, {}, triangle(), "become", value)


class Questions(unittest.TestCase):

    def test_half_and_odd(self):
        for group in random_groups(281, 60, 0, 6) + [EMPTY, ONE, TWO, ring_group(3, 3), ring_group(5, 1)]:
            live = Round(EMPTY)
            live.become(group)
            x = live.half()
            self.assertTrue(is_half(group, x) and is_plain(x))
            self.assertEqual([live.odd(), len(live)], [plain_odd(group), 1])

    def test_sixteen_people(self):
        live = Round(ring_group(3, 5, 7, 1))
        self.assertEqual(live.odd(), [NAMES[:3], NAMES[3:8], NAMES[8:15]])
        live.leave("ann")
        self.assertEqual([live.odd(), live.moved()], [[NAMES[3:8], NAMES[8:15]], ([NAMES[:3]], [])])
        self.assertTrue(is_plain(live.half()) and is_half(live.group, live.half()))

    def test_moved(self):
        live = Round(triangle())
        self.assertEqual([live.moved(), live.moved()], [([], []), ([], [])])
        live.leave("ann")
        live.undo()
        self.assertEqual(live.moved(), ([], []))
        live.leave("ann")
        self.assertEqual([live.moved(), live.moved()], [([LOT], []), ([], [])])
        live.undo()
        self.assertEqual([live.moved(), live.moved()], [([], [LOT]), ([], [])])

    def test_moved_over_several_deeds(self):
        live = Round(ring_group(3, 3))
        live.leave("ann")
        live.leave("dan")
        self.assertEqual(live.moved(), ([LOT, ("dan", "eve", "fay")], []))
        live.become(ring_group(3, 5))
        self.assertEqual(live.moved(), ([], [LOT, ("dan", "eve", "fay", "gus", "hal")]))
        live.become(ring_group(5, 3))
        self.assertEqual(live.moved(), ([LOT, ("dan", "eve", "fay", "gus", "hal")],
                                        [NAMES[:5], ("fay", "gus", "hal")]))
        for _ in range(4):
            live.undo()
        self.assertEqual(live.moved(), ([NAMES[:5], ("fay", "gus", "hal")], [LOT, ("dan", "eve", "fay")]))

    def test_refused_deeds_do_not_move(self):
        live = Round(triangle())
        raises(self, NoPerson, {"value": "dan"}, live.leave, "dan")
        raises(self, NoGroup, {}, live.become, None)
        self.assertEqual([live.moved(), live.odd()], [([], []), [LOT]])

    def test_answers_may_change(self):
        live = Round(triangle())
        live.odd().clear()
        live.half().clear()
        live.leave("ann")
        for part in live.moved():
            part.append("zoe")
        live.undo()
        told = live.moved()
        told[1].clear()
        self.assertEqual([live.odd(), len(live.half()), live.moved()], [[LOT], 3, ([], [])])


class Trials(unittest.TestCase):

    def test_the_very_value(self):
        for value in any_values() + [object(), [[]], {"a": []}]:
            self.assertIs(Round(triangle()).tried(lambda live: value), value)
        live = Round(triangle())
        self.assertIs(live.tried(lambda live: live), live)

    def test_everything_is_as_before(self):
        live = Round(triangle())
        live.wish("ann", ["bob"])
        group = live.group

        def deed(passed):
            self.assertIs(passed, live)
            live.undo()
            live.leave("ann")
            live.leave("bob")
            told = live.moved()
            live.undo()
            return [told, len(live), live.group.people()]

        self.assertEqual(live.tried(deed), [([LOT], []), 1, ["bob", "cat"]])
        self.assertEqual([live.group == group, len(live), live.moved()], [True, 1, ([LOT], [])])
        live.undo()
        self.assertEqual([live.group == triangle(), len(live), live.moved()], [True, 0, ([], [LOT])])

    def test_errors_are_raised_on(self):
        live = Round(triangle())
        live.leave("ann")
        for error in (Stop("x"), KeyError(1), NoGroup(), KeyboardInterrupt()):
            def deed(live):
                live.undo()
                live.moved()
                live.leave("bob")
                raise error
            with self.assertRaises(error.__class__) as caught:
                live.tried(deed)
            self.assertIs(caught.exception, error)
            self.assertEqual([live.group.people(), len(live)], [["bob", "cat"], 1])
        self.assertEqual(live.moved(), ([LOT], []))

    def test_refused_deeds_are_raised_on(self):
        live = Round(triangle())
        raises(self, NoPerson, {"value": "dan"}, live.tried, lambda live: [live.leave("ann"), live.leave("dan")])
        self.assertEqual([live.group == triangle(), len(live), live.moved()], [True, 0, ([], [])])

    def test_ten_deep(self):
        people, seen = NAMES[:13], []
        live = Round(everybody(13))

        def deed_at(depth):
            def deed(live):
                live.leave(people[depth])
                live.moved()
                if depth < 9:
                    live.tried(deed_at(depth + 1))
                seen.append((depth, len(live), live.group.people()[0]))
                return depth
            return deed

        self.assertEqual(live.tried(deed_at(0)), 0)
        self.assertEqual(seen, [(k, k + 1, people[k + 1]) for k in range(9, -1, -1)])
        self.assertEqual([live.group == everybody(13), len(live)], [True, 0])

    def test_an_error_in_the_depth(self):
        live = Round(triangle())

        def inner(live):
            live.leave("bob")
            raise Stop()

        def outer(live):
            live.leave("ann")
            try:
                live.tried(inner)
            except Stop:
                live.leave("cat")
            return live.group.people()

        self.assertEqual([live.tried(outer), live.group.people(), len(live)], [["bob"], ["ann", "bob", "cat"], 0])

    def test_other_rounds_are_not_affected(self):
        live, other = Round(triangle()), Round(triangle())

        def deed(live):
            other.leave("ann")
            return other.tried(lambda other: [live.leave("bob"), other.leave("cat"), other.group.people()])[2]

        self.assertEqual(live.tried(deed), ["bob"])
        self.assertEqual([live.group == triangle(), len(live), live.moved()], [True, 0, ([], [])])
        self.assertEqual([other.group.people(), len(other), other.moved()], [["bob", "cat"], 1, ([LOT], [])])

    def test_trials_that_only_ask(self):
        live = Round(triangle())
        self.assertEqual(live.tried(Round.odd), [LOT])
        self.assertIsNone(live.tried(lambda live: live.leave("ann")))
        self.assertEqual(len(live), 0)


if __name__ == "__main__":
    unittest.main()
