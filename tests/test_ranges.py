"""Every range at its two ends, one beyond each, and at the ends of all numbers."""

import unittest

from tests.helper import (HIGHEST, LOWEST, categories, day, firsts, go, group, hard, item, last, least, log, need, pair,
                          reply, till, weak)

# What is there when a call is tried: two items of 8 units.
READY = [item(8, 0, 1), item(8, 0, 1)]

# A name, the least and the most that's taken, and the call with that number.
RANGES = [
    ("units", 1, 8, lambda n: item(n, 0, 1)),
    ("category", 0, 3, lambda n: item(1, n, 1)),
    ("hours", 1, 100, lambda n: item(1, 0, n)),
    ("need x", 0, 8, lambda n: need(0, n, 0)),
    ("need condition", 0, 8, lambda n: need(0, 0, n)),
    ("pair x", 0, 8, lambda n: pair(0, n, 1, 0, 0)),
    ("pair y", 0, 8, lambda n: pair(0, 0, 1, n, 0)),
    ("pair condition", 0, 8, lambda n: pair(0, 0, 1, 0, n)),
    ("group k", 0, 80, lambda n: group(n, 0, [0])),
    ("group k, nothing listed", 0, 80, lambda n: group(n, 0, [])),
    ("group condition", 0, 8, lambda n: group(0, n, [0])),
    ("d0", 0, 1000, lambda n: categories(n, 0, 0, 0, 0)),
    ("d1", 0, 1000, lambda n: categories(0, n, 0, 0, 0)),
    ("d2", 0, 1000, lambda n: categories(0, 0, n, 0, 0)),
    ("d3", 0, 1000, lambda n: categories(0, 0, 0, n, 0)),
    ("lasting", 0, 1000, lambda n: categories(0, 0, 0, 0, n)),
    ("day", 1, 1000, lambda n: day(n)),
    ("go condition", 0, 7, lambda n: go(n)),
    ("till condition", 0, 7, lambda n: till(n)),
    ("least condition", 0, 7, lambda n: least(n, 0)),
    ("least h", 0, 1000, lambda n: least(0, n)),
    ("hard condition", 0, 7, lambda n: hard(n)),
    ("weak condition", 0, 7, lambda n: weak(n)),
    ("log k", 0, 100000, lambda n: log(n)),
]


class Ranges(unittest.TestCase):
    def test_within(self):
        for name, least, most, call in RANGES:
            for n in (least, least + 1, most - 1, most):
                with self.subTest(name=name, n=n):
                    self.assertGreaterEqual(reply(*READY, call(n))[0], 0)

    def test_beyond(self):
        for name, least, most, call in RANGES:
            for n in (least - 1, most + 1, LOWEST, HIGHEST):
                with self.subTest(name=name, n=n):
                    self.assertEqual(reply(*READY, call(n)), [-1])

    def test_how_many_a_group_lists(self):
        ten = [item()] * 10
        for size in (0, 1, 9, 10):
            self.assertEqual(last(*ten, group(80, 8, range(size))), 0)
        for size in (11, 12, 20):
            self.assertEqual(last(*ten, group(80, 8, range(size))), -1)
            self.assertEqual(last(*ten, group(80, 8, [0] * size)), -1)

    def test_a_refused_number_changes_nothing(self):
        for name, least, most, call in RANGES:
            for n in (least - 1, most + 1):
                with self.subTest(name=name, n=n):
                    given = firsts(*READY, call(n), item(), need(0), day(1))
                    self.assertEqual(given[2:], [-1, 2, 0, 1])
