"""Lines as long as they may be: 400 calls, 10 items, 40 rules, 20 least, the product near 5000."""

import random
import unittest

from maygo.desk import answers
from tests.helper import (categories, day, extend, fail, flat, go, group, hard, item, least, log, need, pair, repair,
                          state, told, weak)
from tests.test_model import Plain

# How many units of each item are broken, so that the product is 4608, 4374, 5000, 4096 and 4860.
SHAPES = [(8, 1, 1, 1, 1, 1, 1, 1, 1, 1), (2, 0, 2, 2, 2, 1, 2, 2, 0, 2), (4, 1, 4, 1, 4, 1, 4, 0, 0, 0),
          (7, 7, 7, 7, 0, 0, 0, 0, 0, 0), (0, 2, 2, 2, 8, 4, 3, 0, 0, 0)]


def broken_items(counts, chance):
    calls = [categories(1000, 900, 800, 700, 0)]
    calls += [item(max(1, n), chance.randint(0, 3), chance.randint(1, 100)) for n in counts]
    return calls + [fail(a) for a, n in enumerate(counts) for _ in range(n)]


def some_rule(counts, chance):
    a, b = chance.sample(range(10), 2)
    x, y = chance.randint(0, max(1, counts[a])), chance.randint(0, max(1, counts[b]))
    condition = chance.choice([8, 8, 0, 1, 2])
    return chance.choice([need(a, min(x, 1), condition), pair(a, x, b, y, condition),
                          group(chance.randint(0, sum(counts)), condition, chance.sample(range(10), 10))])


def filled(calls, chance):
    """Up to 400 calls, with what changes nothing."""
    while len(calls) < 400:
        calls.append(chance.choice([go(0), hard(1), weak(2), state(3), log(4)]))
    return calls


class Long(unittest.TestCase):
    def test_as_the_second_reading_has_it(self):
        for number, counts in enumerate(SHAPES):
            chance = random.Random(number)
            calls = broken_items(counts, chance) + [some_rule(counts, chance) for _ in range(40)]
            for condition in range(4):
                calls.append(least(condition, 700 + 100 * condition))
            filled(calls, chance)
            plain = Plain()
            self.assertEqual(told(*calls), [plain.answer(call) for call in calls])

    def test_the_last_of_forty_rules_asks_for_everything(self):
        for counts in SHAPES:
            chance = random.Random(1)
            broken = sum(counts)
            groups = [group(max(broken - 1, 0), 8, range(10))] * 39 + [group(0, 8, range(10))]
            before = broken_items(counts, chance) + groups
            calls = filled(before + [least(0, 0)] * 20, chance)
            hours = sum(n * call[3] for n, call in zip(counts, before[1:11]))
            given = told(*calls)
            self.assertEqual(given[len(before):len(before) + 20], [[0, hours, *counts]] * 20)

    def test_each_rule_asks_for_one_repair_more(self):
        for counts in SHAPES:
            broken = sum(counts)
            # All hours are alike, so the unit that stays broken is of the first item that has one.
            first = next(a for a, n in enumerate(counts) if n > 0)
            repairs = list(counts)
            repairs[first] -= 1
            groups = [group(max(1, broken - k), 8, range(10)) for k in range(40)]
            before = [item(max(1, n), 3, 10) for n in counts]
            before += [fail(a) for a, n in enumerate(counts) for _ in range(n)] + groups
            given = told(*before, *[least(7, 120)] * 20)
            self.assertEqual(given[len(before):], [[0, 10 * (broken - 1), *repairs]] * 20)

    def test_four_hundred_events(self):
        calls = [item(8, 3), *[fail(), day(), repair()] * 132, log(200), log(263), log(264)]
        given = told(*calls)
        self.assertEqual(given[-3][:7], [150, 100, 0, 0, 101, 0, 1])
        self.assertEqual(given[-2:], [[3, 132, 0, 1], [0]])

    def test_four_hundred_times_the_longest_answers(self):
        calls = flat([item(8, 3), *[fail(), extend()] * 30, *[log(0)] * 339])
        self.assertEqual(len(answers(calls)), 2 + 2 * 60 + 339 * (2 + 3 * 16))
