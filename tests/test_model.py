"""Long lines of calls, compared with a second, plainer reading of the document."""

import random
import unittest

from tests.helper import (CLEAR, HIGHEST, LOWEST, categories, day, extend, fail, firsts, group, item, need, pair,
                          repair)


class Plain:
    """Units one by one, repairs one by one; nothing kept in order, all looked for."""

    def __init__(self):
        self.begin()

    def begin(self):
        self.items, self.rules, self.repairs = [], 0, []
        self.days, self.lasting, self.today = [0, 3, 10, 120], 0, 0

    def answer(self, call):
        name = ("clear", "item", "need", "pair", "group", "categories", "day", "fail", "repair", "extend")[call[0]]
        return getattr(self, "call_" + name)(*call[1:])

    def call_clear(self):
        self.begin()
        return 0

    def call_item(self, units, category, hours):
        if units not in range(1, 9) or category not in range(4) or hours not in range(1, 101):
            return -1
        if len(self.items) >= 10:
            return -2
        self.items.append({"category": category, "units": [{"works": True} for _ in range(units)]})
        return len(self.items) - 1

    def rule(self, ranges, items, unfit):
        if not all(low <= n <= high for n, low, high in ranges):
            return -1
        if not all(a in range(len(self.items)) for a in items):
            return -3
        if unfit():
            return -8
        if self.rules >= 40:
            return -2
        self.rules += 1
        return self.rules - 1

    def size(self, a):
        return len(self.items[a]["units"])

    def call_need(self, a, x, condition):
        return self.rule([(x, 0, 8), (condition, 0, 8)], [a], lambda: self.size(a) < x)

    def call_pair(self, a, x, b, y, condition):
        return self.rule([(x, 0, 8), (y, 0, 8), (condition, 0, 8)], [a, b],
                         lambda: a == b or self.size(a) < x or self.size(b) < y)

    def call_group(self, k, condition, size, *listed):
        return self.rule([(k, 0, 80), (condition, 0, 8), (size, 0, 10)], listed,
                         lambda: any(listed.count(a) > 1 for a in listed))

    def call_categories(self, *numbers):
        if any(n < 0 or n > 1000 for n in numbers):
            return -1
        self.days, self.lasting = list(numbers[:4]), numbers[4]
        return 0

    def call_day(self, n):
        if n < 1 or n > 1000:
            return -1
        self.today += n
        return self.today

    def broken(self, a):
        return [unit for unit in self.items[a]["units"] if not unit["works"]]

    def call_fail(self, a):
        if a not in range(len(self.items)):
            return -3
        working = [unit for unit in self.items[a]["units"] if unit["works"]]
        if not working:
            return -4
        recent = [(entry["day"], number, entry) for number, entry in enumerate(self.repairs)
                  if entry["item"] == a and self.today - entry["day"] < self.lasting]
        unit = working[0]
        unit.update(works=False, found=self.today, extended=False)
        if recent:
            entry = max(recent, key=lambda one: one[:2])[2]
            unit.update(found=entry["found"], extended=entry["extended"])
            self.repairs = [one for one in self.repairs if one is not entry]
        return len(working) - 1

    def call_repair(self, a):
        if a not in range(len(self.items)):
            return -3
        if not self.broken(a):
            return -5
        unit = min(self.broken(a), key=lambda one: (one["found"], one["extended"]))
        unit["works"] = True
        self.repairs.append({"item": a, "day": self.today, "found": unit["found"], "extended": unit["extended"]})
        return unit["found"]

    def call_extend(self, a):
        if a not in range(len(self.items)):
            return -3
        days = self.days[self.items[a]["category"]]
        ready = [unit for unit in self.broken(a) if not unit["extended"] and unit["found"] + days >= self.today]
        if not ready:
            return -6
        unit = min(ready, key=lambda one: one["found"])
        unit["extended"] = True
        return unit["found"] + 2 * days


def near(chance, low, high):
    """Mostly within the range, now and then at or beyond its ends."""
    if chance.random() < 0.04:
        return chance.choice([low - 1, low, high, high + 1, LOWEST, HIGHEST])
    return chance.randint(low, high)


def some_call(chance, most_item):
    kind = chance.choices(range(10), [0.2, 3, 2, 2, 2, 1.5, 6, 14, 8, 8])[0]
    a, b = near(chance, 0, most_item), near(chance, 0, most_item)
    if kind == 0:
        return CLEAR
    if kind == 1:
        return item(near(chance, 1, 8), near(chance, 0, 3), near(chance, 1, 100))
    if kind == 2:
        return need(a, near(chance, 0, 8), near(chance, 0, 8))
    if kind == 3:
        return pair(a, near(chance, 0, 5), b, near(chance, 0, 5), near(chance, 0, 8))
    if kind == 4:
        size = chance.choice([0, 1, 2, 2, 3, 10, 11, 20])
        return group(near(chance, 0, 80), near(chance, 0, 8), [near(chance, 0, most_item) for _ in range(size)])
    if kind == 5:
        return categories(*[near(chance, 0, chance.choice([3, 8, 1000])) for _ in range(5)])
    if kind == 6:
        return day(near(chance, 1, chance.choice([1, 2, 6, 1000])))
    return (fail, repair, extend)[kind - 7](a)


class Model(unittest.TestCase):
    def test_long_lines(self):
        for seed in range(300):
            chance = random.Random(seed)
            most_item = chance.choice([0, 2, 9])
            calls = [item(chance.randint(1, 8), chance.randint(0, 3)) for _ in range(most_item + 1)]
            calls += [some_call(chance, most_item) for _ in range(400 - len(calls))]
            plain = Plain()
            with self.subTest(seed=seed):
                self.assertEqual(firsts(*calls), [plain.answer(call) for call in calls])
