"""The half from which `dealing` takes its answer (points 14 to 16)."""

import unittest

from helpers import everybody, is_half, random_groups, square, triangle
from quietpairs.groups import Group
from quietpairs.seats import found_half, rings_of, split_rings


class Seats(unittest.TestCase):

    def test_found_halves(self):
        for group in random_groups(31, 300, 0, 16):
            half = found_half(group)
            self.assertTrue(is_half(group, half))
            self.assertTrue(is_half(group, split_rings(half)))

    def test_known_halves(self):
        self.assertEqual(found_half(Group((), {})), {})
        self.assertEqual(found_half(triangle()), {"ann": "bob", "bob": "cat", "cat": "ann"})
        self.assertEqual(found_half(everybody(3)), {"ann": "bob", "bob": "ann", "cat": "cat"})

    def test_rings(self):
        x = {"fay": "dan", "eve": "eve", "dan": "fay", "cat": "bob", "bob": "ann", "ann": "cat"}
        self.assertEqual(rings_of(x), [("ann", "cat", "bob"), ("dan", "fay"), ("eve",)])
        self.assertEqual(rings_of({}), [])

    def test_split_rings(self):
        x = {"dan": "bob", "cat": "dan", "ann": "cat", "bob": "ann", "eve": "gus", "gus": "fay", "fay": "eve"}
        want = {"ann": "cat", "cat": "ann", "dan": "bob", "bob": "dan", "eve": "gus", "gus": "fay", "fay": "eve"}
        before = dict(x)
        self.assertEqual(split_rings(x), want)
        self.assertEqual(x, before)
        self.assertEqual(split_rings(want), want)

    def test_a_ring_of_six(self):
        names = ["ann", "bob", "cat", "dan", "eve", "fay"]
        x = {names[k]: names[(k + 5) % 6] for k in range(6)}
        want = {"ann": "fay", "fay": "ann", "eve": "dan", "dan": "eve", "cat": "bob", "bob": "cat"}
        self.assertEqual(split_rings(x), want)

    def test_the_group_stays(self):
        group = square()
        found_half(group)["ann"] = "ann"
        self.assertTrue(group == square())
        self.assertTrue(is_half(group, found_half(group)))


if __name__ == "__main__":
    unittest.main()
