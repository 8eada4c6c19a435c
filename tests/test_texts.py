"""Points 3 to 5 and 36 to 39: groups and dealings as lines."""

import random
import re
import unittest

from helpers import NAMES, any_values, bad_dealings, everybody, plain_dealings, raises, random_groups, ring_group
from helpers import square, triangle, turned, two_sides, uneven
from quietpairs.errors import NoDealing, NoText
from quietpairs.groups import Group
from quietpairs.texts import dealing_text, group_text, read_dealing, read_group

EMPTY = Group((), {})
ONE = Group(("ann",), {"ann": []})
TWO = Group(("bob", "ann"), {"ann": ["bob"], "bob": ["ann"]})
PAIRS = {"ann": "bob", "bob": "ann", "cat": "dan", "dan": "cat"}
TRIANGLE = "people ann bob cat\nann: bob cat\nbob: cat ann\ncat: ann bob\n"


def different(words):
    """Whether no word stands there twice."""
    return len(set(words)) == len(words)


def group_line(text):
    """The line of NoText that point 37 names, or None if the text is a group."""
    if not isinstance(text, str) or text[-1:] != "\n":
        return 0
    lines = text.split("\n")
    lines.pop()
    if not re.fullmatch("people( [a-z]{1,8}){0,16}", lines[0]) or not different(lines[0].split()[1:]):
        return 1
    people = lines[0].split()[1:]
    for k, person in enumerate(people):
        if k + 1 >= len(lines):
            return len(lines) + 1
        others = "|".join(b for b in people if b != person)
        wanted = f"{person}:( ({others}))*" if others else f"{person}:"
        if not re.fullmatch(wanted, lines[k + 1]) or not different(lines[k + 1].split()[1:]):
            return k + 2
    return None if len(lines) == len(people) + 1 else len(people) + 2


def dealing_line(group, text):
    """The line of NoText that point 39 names, or None if the text is a dealing of the group."""
    if not isinstance(text, str) or (text and text[-1] != "\n"):
        return 0
    fitting = {a: [a] for a in group.people()}
    fitting.update({f"{a} {b}": [a, b] for a, b in group.pairs()})
    before = []
    lines = text.split("\n")
    lines.pop()
    for k, line in enumerate(lines):
        people = fitting.get(line)
        if people is None or any(a in row for a in people for row in before) or before and people[0] <= before[-1][0]:
            return k + 1
        before.append(people)
    return None if sum(map(len, before)) == len(group) else len(lines) + 1


def spoilt(source, text):
    """The text after a few random changes, most of which spoil it."""
    for _ in range(source.randint(1, 2)):
        lines = text.split("\n")
        k = source.randrange(len(lines))
        words = lines[k].split(" ")
        j = source.randrange(len(words))
        at = source.randint(0, len(text))
        text = source.choice([
            lambda: text[:at] + text[at + 1:],
            lambda: text[:at] + source.choice(" \n:aA1~") + text[at:],
            lambda: "\n".join(lines[:k] + lines[k + 1:]),
            lambda: "\n".join(lines[:k] + [lines[k]] + lines[k:]),
            lambda: "\n".join(lines[:k] + [""] + lines[k:]),
            lambda: "\n".join(lines[:k] + [" ".join(words[:j] + words[j + 1:])] + lines[k + 1:]),
            lambda: "\n".join(lines[:k] + [" ".join(words[:j] + [source.choice(NAMES)] + words[j:])] + lines[k + 1:]),
            lambda: "\n".join(lines[:k] + [" ".join(reversed(words))] + lines[k + 1:]),
            lambda: "\n".join(sorted(lines, key=lambda line: (line == "", source.random()))),
        ])()
    return text


class GroupTexts(unittest.TestCase):

    def test_known_texts(self):
        self.assertEqual(group_text(triangle()), TRIANGLE)
        self.assertEqual(group_text(uneven()), "people dan bob ann cat\ndan: ann bob cat\nbob: dan\n"
                                               "ann: cat bob dan\ncat: ann dan bob\n")
        self.assertEqual([group_text(EMPTY), group_text(ONE), group_text(TWO)],
                         ["people\n", "people ann\nann:\n", "people bob ann\nbob: ann\nann: bob\n"])
        self.assertEqual(group_text(everybody(16)).split("\n")[16], "pam: " + " ".join(NAMES[:15]))

    def test_words_of_the_text_are_names_too(self):
        group = Group(("people", "a", "abcdefgh"), {"people": ["a"], "a": [], "abcdefgh": ["people", "a"]})
        text = "people people a abcdefgh\npeople: a\na:\nabcdefgh: people a\n"
        self.assertEqual(group_text(group), text)
        self.assertTrue(read_group(text) == group)

    def test_read_back(self):
        for group in random_groups(251, 200, 0, 16) + [EMPTY, ONE, TWO, everybody(16), ring_group(3, 5, 4)]:
            text = group_text(group)
            self.assertIsNone(group_line(text))
            self.assertTrue(read_group(text) == group)
            self.assertEqual(group_text(read_group(text)), text)

    def test_known_groups(self):
        self.assertTrue(read_group(TRIANGLE) == triangle())
        self.assertTrue(read_group("people\n") == EMPTY)
        self.assertTrue(read_group("people ann\nann:\n") == ONE)

    def test_no_text(self):
        for text in any_values() + [0, ["people\n"], ("people\n",), {"people\n": 1}]:
            if not isinstance(text, str):
                with self.subTest(text=text):
                    raises(self, NoText, {"line": 0}, read_group, text)
        for text in ("", "people", "people ann", TRIANGLE[:-1], TRIANGLE + " ", TRIANGLE + "ann", "x", "\npeople"):
            raises(self, NoText, {"line": 0}, read_group, text)

    def test_first_lines(self):
        for line in ("", " ", "People", "people ", " people", "people  ann", "people ann ", "people ann ann",
                     "people: ann", "people Ann", "people ann1", "people abcdefghi", "people ann, bob", "ann", "peopl",
                     "people ann  bob", "peopleann", "people " + " ".join(NAMES) + " zoe", "people ann bob ann", "~"):
            with self.subTest(line=line):
                raises(self, NoText, {"line": 1}, read_group, line + "\n")
                raises(self, NoText, {"line": 1}, read_group, line + "\nann: bob\nbob: ann\n")
        raises(self, NoText, {"line": 1}, read_group, "\n" + TRIANGLE)

    def test_lines_of_people(self):
        for line in ("", "bob", "bob ann", " bob: ann", "bob : ann", "bob:ann", "bob:  ann", "bob: ann ", "bob: ",
                     "bob: bob", "bob: ann ann", "bob: dan", "bob: Ann", "bob: ann, cat", "ann: bob", "cat: ann",
                     "bob:: ann", "Bob: ann", "bob: ann cat bob", "bob: ann cat ann", "bob: 1", "people ann bob cat"):
            for rest in ("", "cat: ann bob\n", "cat: cat\n", "\n"):
                with self.subTest(line=line, rest=rest):
                    text = "people ann bob cat\nann: bob cat\n" + line + "\n" + rest
                    raises(self, NoText, {"line": 3}, read_group, text)

    def test_too_few_lines(self):
        for k in range(1, 4):
            text = "".join(line + "\n" for line in TRIANGLE.split("\n")[:k])
            raises(self, NoText, {"line": k + 1}, read_group, text)
        raises(self, NoText, {"line": 2}, read_group, "people " + " ".join(NAMES) + "\n")
        raises(self, NoText, {"line": 2}, read_group, "people ann bob\nann:  bob\n")

    def test_too_many_lines(self):
        for more in ("\n", "\n\n", "cat: ann bob\n", "dan: ann\n", " \n", "dan:\neve:\n"):
            raises(self, NoText, {"line": 5}, read_group, TRIANGLE + more)
            raises(self, NoText, {"line": 2}, read_group, "people\n" + more)
            raises(self, NoText, {"line": 18}, read_group, group_text(everybody(16)) + more)

    def test_spoilt_texts(self):
        source = random.Random(252)
        told = []
        for group in random_groups(253, 300, 0, 5) + random_groups(254, 20, 16, 16):
            for _ in range(10):
                text = spoilt(source, group_text(group))
                line = group_line(text)
                told.append(line)
                with self.subTest(text=text):
                    if line is None:
                        self.assertEqual(group_text(read_group(text)), text)
                    else:
                        raises(self, NoText, {"line": line}, read_group, text)
        for line in (None, 0, 1, 2, 3, 4, 5):
            self.assertGreater(told.count(line), 30)


class DealingTexts(unittest.TestCase):

    def test_known_texts(self):
        self.assertEqual(dealing_text(square(), PAIRS), "ann bob\ncat dan\n")
        self.assertEqual(dealing_text(square(), {"dan": None, "bob": "cat", "cat": "bob", "ann": None}),
                         "ann\nbob cat\ndan\n")
        self.assertEqual([dealing_text(EMPTY, {}), dealing_text(ONE, {"ann": None})], ["", "ann\n"])
        self.assertEqual(dealing_text(everybody(16), dict.fromkeys(NAMES)), "".join(a + "\n" for a in NAMES))

    def test_read_back(self):
        for group in random_groups(261, 80, 0, 6) + [EMPTY, ONE, TWO, square(), two_sides(3)]:
            for x in plain_dealings(group):
                text = dealing_text(group, x)
                self.assertIsNone(dealing_line(group, text))
                self.assertEqual(dealing_text(group, turned(x)), text)
                self.assertEqual(read_dealing(group, text), x)

    def test_known_dealings(self):
        self.assertEqual(read_dealing(square(), "ann dan\nbob cat\n"),
                         {"ann": "dan", "dan": "ann", "bob": "cat", "cat": "bob"})
        self.assertEqual([read_dealing(EMPTY, ""), read_dealing(ONE, "ann\n")], [{}, {"ann": None}])
        self.assertEqual(read_dealing(TWO, "ann\nbob\n"), {"ann": None, "bob": None})
        self.assertEqual(read_dealing(everybody(16), "".join(a + "\n" for a in NAMES)), dict.fromkeys(NAMES))

    def test_no_dealing(self):
        for x in any_values() + bad_dealings():
            with self.subTest(x=x):
                raises(self, NoDealing, {}, dealing_text, triangle(), x)
        raises(self, NoDealing, {}, dealing_text, EMPTY, {"ann": None})
        raises(self, NoDealing, {}, dealing_text, everybody(16), {})

    def test_no_text(self):
        for text in any_values() + [0, ["ann\n"], ("ann\n",), {"ann\n": 1}]:
            if not isinstance(text, str):
                with self.subTest(text=text):
                    raises(self, NoText, {"line": 0}, read_dealing, square(), text)
                    raises(self, NoText, {"line": 0}, read_dealing, EMPTY, text)
        for text in ("ann bob\ncat dan", "ann", " ", "ann bob\ncat dan\n ", "x", "\nann"):
            raises(self, NoText, {"line": 0}, read_dealing, square(), text)
            raises(self, NoText, {"line": 0}, read_dealing, EMPTY, text)

    def test_lines(self):
        for line in ("", " ", "bob ", " bob", "bob  cat", "cat bob", "bob bob", "bob dan", "bob cat dan", "bob: cat",
                     "Bob", "eve", "bob eve", "eve bob", "bob,cat", "ann", "ann dan", "bob cat ", "bobcat"):
            for rest in ("", "cat\ndan\n", "cat dan\n", "\n", "ann\n"):
                with self.subTest(line=line, rest=rest):
                    raises(self, NoText, {"line": 2}, read_dealing, square(), "ann\n" + line + "\n" + rest)
        raises(self, NoText, {"line": 1}, read_dealing, EMPTY, "\n")
        raises(self, NoText, {"line": 1}, read_dealing, EMPTY, "ann\n")

    def test_people_who_are_not_open(self):
        group = Group(("ann", "bob"), {"ann": ["bob"], "bob": []})
        raises(self, NoText, {"line": 1}, read_dealing, group, "ann bob\n")
        self.assertEqual(read_dealing(group, "ann\nbob\n"), {"ann": None, "bob": None})

    def test_people_twice(self):
        raises(self, NoText, {"line": 2}, read_dealing, square(), "ann bob\nbob cat\ndan\n")
        raises(self, NoText, {"line": 3}, read_dealing, square(), "ann bob\ncat\ndan ann\n")
        raises(self, NoText, {"line": 2}, read_dealing, ONE, "ann\nann\n")
        raises(self, NoText, {"line": 3}, read_dealing, square(), "ann bob\ncat dan\ndan\n")
        raises(self, NoText, {"line": 3}, read_dealing, square(), "ann bob\ncat dan\n\n")
        # Bob stands behind ann, but in an earlier line.
        raises(self, NoText, {"line": 2}, read_dealing, square(), "ann bob\nbob\ncat\ndan\n")

    def test_order_of_lines(self):
        raises(self, NoText, {"line": 2}, read_dealing, square(), "cat dan\nann bob\n")
        raises(self, NoText, {"line": 3}, read_dealing, square(), "ann\ncat\nbob\ndan\n")
        # The first names of the lines are compared, not the lesser name of the line with the second name before.
        self.assertEqual(read_dealing(square(), "ann dan\nbob\ncat\n"),
                         {"ann": "dan", "dan": "ann", "bob": None, "cat": None})

    def test_missing_people(self):
        raises(self, NoText, {"line": 1}, read_dealing, square(), "")
        raises(self, NoText, {"line": 2}, read_dealing, square(), "ann bob\n")
        raises(self, NoText, {"line": 3}, read_dealing, square(), "ann bob\ndan\n")
        raises(self, NoText, {"line": 16}, read_dealing, everybody(16), "".join(a + "\n" for a in NAMES[:15]))

    def test_spoilt_texts(self):
        source = random.Random(262)
        told = []
        for group in random_groups(263, 120, 0, 5) + [square(), two_sides(3)]:
            dealings = plain_dealings(group)
            for _ in range(20):
                text = spoilt(source, dealing_text(group, source.choice(dealings)))
                line = dealing_line(group, text)
                told.append(line)
                with self.subTest(text=text):
                    if line is None:
                        self.assertEqual(dealing_text(group, read_dealing(group, text)), text)
                    else:
                        raises(self, NoText, {"line": line}, read_dealing, group, text)
        for line in (None, 0, 1, 2, 3, 4):
            self.assertGreater(told.count(line), 30)

    def test_arguments_and_answers(self):
        group, x = square(), dict(PAIRS)
        dealing_text(group, x)
        self.assertEqual(list(x.items()), list(PAIRS.items()))
        read_dealing(group, "ann bob\ncat dan\n").clear()
        self.assertEqual(read_dealing(group, "ann bob\ncat dan\n"), PAIRS)
        self.assertTrue(group == square())


if __name__ == "__main__":
    unittest.main()
