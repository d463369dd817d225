"""Long lines of calls, compared with a second, plainer reading of the document."""

import itertools
import random
import unittest

from tests.helper import (CLEAR, HIGHEST, LOWEST, TOTALS, categories, day, extend, fail, go, group, hard, item, least, log,
                          need, pair, repair, rule, state, till, told, weak)

NAMES = ("clear", "item", "need", "pair", "group", "categories", "day", "fail", "repair", "extend", "go", "till", "least",
         "hard", "weak", "state", "rule", "totals", "log")


class Plain:
    """Units one by one, repairs one by one; nothing kept in order, all looked for and all ways tried."""

    def __init__(self):
        self.begin()

    def begin(self):
        self.items, self.rules, self.repairs, self.events = [], [], [], []
        self.days, self.lasting, self.today = [0, 3, 10, 120], 0, 0

    def answer(self, call):
        given = getattr(self, "call_" + NAMES[call[0]])(*call[1:])
        return given if isinstance(given, list) else [given]

    def call_clear(self):
        self.begin()
        return 0

    def call_item(self, units, category, hours):
        if units not in range(1, 9) or category not in range(4) or hours not in range(1, 101):
            return -1
        if len(self.items) >= 10:
            return -2
        self.items.append({"category": category, "hours": hours, "units": [{"works": True} for _ in range(units)]})
        return len(self.items) - 1

    def add_rule(self, ranges, items, unfit, shown, test):
        if not all(low <= n <= high for n, low, high in ranges):
            return -1
        if not all(a in range(len(self.items)) for a in items):
            return -3
        if unfit():
            return -8
        if len(self.rules) >= 40:
            return -2
        self.rules.append({"shown": shown, "condition": shown[5], "items": items, "holds": test})
        return len(self.rules) - 1

    def size(self, a):
        return len(self.items[a]["units"])

    def call_need(self, a, x, condition):
        return self.add_rule([(x, 0, 8), (condition, 0, 8)], [a], lambda: self.size(a) < x,
                             [0, a, x, 0, 0, condition, 0], lambda works: works[a] >= x)

    def call_pair(self, a, x, b, y, condition):
        return self.add_rule([(x, 0, 8), (y, 0, 8), (condition, 0, 8)], [a, b],
                             lambda: a == b or self.size(a) < x or self.size(b) < y,
                             [1, a, x, b, y, condition, 0], lambda works: works[a] >= x or works[b] >= y)

    def call_group(self, k, condition, size, *listed):
        return self.add_rule([(k, 0, 80), (condition, 0, 8), (size, 0, 10)], listed,
                             lambda: any(listed.count(a) > 1 for a in listed),
                             [2, 0, k, 0, 0, condition, size, *listed],
                             lambda works: sum(self.size(a) - works[a] for a in listed) <= k)

    def call_categories(self, *numbers):
        if any(n < 0 or n > 1000 for n in numbers):
            return -1
        self.days, self.lasting = list(numbers[:4]), numbers[4]
        return 0

    def call_day(self, n):
        if n < 1 or n > 1000:
            return -1
        self.today += n
        return self.today

    def broken(self, a):
        found = [unit for unit in self.items[a]["units"] if not unit["works"]]
        return sorted(found, key=lambda unit: (unit["found"], unit["extended"]))

    def last(self, a, unit):
        days = self.days[self.items[a]["category"]]
        return unit["found"] + (2 * days if unit["extended"] else days)

    def call_fail(self, a):
        if a not in range(len(self.items)):
            return -3
        working = [unit for unit in self.items[a]["units"] if unit["works"]]
        if not working:
            return -4
        recent = [(entry["day"], number, entry) for number, entry in enumerate(self.repairs)
                  if entry["item"] == a and self.today - entry["day"] < self.lasting]
        unit = working[0]
        unit.update(works=False, found=self.today, extended=False)
        if recent:
            entry = max(recent, key=lambda one: one[:2])[2]
            unit.update(found=entry["found"], extended=entry["extended"])
            self.repairs = [one for one in self.repairs if one is not entry]
        self.events.append([self.today, a, 0])
        return len(working) - 1

    def call_repair(self, a):
        if a not in range(len(self.items)):
            return -3
        if not self.broken(a):
            return -5
        unit = self.broken(a)[0]
        unit["works"] = True
        self.repairs.append({"item": a, "day": self.today, "found": unit["found"], "extended": unit["extended"]})
        self.events.append([self.today, a, 1])
        return unit["found"]

    def call_extend(self, a):
        if a not in range(len(self.items)):
            return -3
        ready = [unit for unit in self.broken(a) if not unit["extended"] and self.last(a, unit) >= self.today]
        if not ready:
            return -6
        ready[0]["extended"] = True
        self.events.append([self.today, a, 2])
        return self.last(a, ready[0])

    def works(self):
        return [self.size(a) - len(self.broken(a)) for a in range(len(self.items))]

    def asked(self, condition):
        return [one for one in self.rules if one["condition"] == condition or one["condition"] == 8]

    def call_go(self, condition):
        if condition not in range(8):
            return -1
        for a in range(len(self.items)):
            for unit in self.broken(a):
                if self.last(a, unit) < self.today:
                    return [0, 2, a]
        for number, one in enumerate(self.rules):
            if one in self.asked(condition) and not one["holds"](self.works()):
                return [0, 1, number]
        return [1, 0, 0]

    def call_till(self, condition):
        if condition not in range(8):
            return -1
        if self.call_go(condition) != [1, 0, 0]:
            return -6
        days = sorted(self.last(a, unit) for a in range(len(self.items)) for unit in self.broken(a))
        return [0, days[0] if days else -1]

    def lasts(self, a, repairs, h):
        left = self.broken(a)[repairs:]
        return all(self.last(a, unit) >= when for unit in left for when in range(self.today, self.today + h + 1))

    def call_least(self, condition, h):
        if condition not in range(8) or h not in range(1001):
            return -1
        counts = [range(len(self.broken(a)) + 1) for a in range(len(self.items))]
        product = 1
        for one in counts:
            product *= len(one)
        if product > 5000:
            return -7
        lasting = [[self.lasts(a, n, h) for n in counts[a]] for a in range(len(counts))]
        works, asked = self.works(), self.asked(condition)
        best = None
        for way in itertools.product(*counts):
            after = [w + n for w, n in zip(works, way)]
            if all(lasting[a][n] for a, n in enumerate(way)) and all(one["holds"](after) for one in asked):
                found = [sum(n * self.items[a]["hours"] for a, n in enumerate(way)), *way]
                best = found if best is None else min(best, found)
        return [0] + best

    def failures(self, one):
        """How many failures can break this rule, trying all failures of its items; None if none can."""
        works = self.works()
        ways = []
        if one["shown"][0] == 2:
            # In a group every unit counts alike, so they may as well fail one behind another.
            units = [a for a in one["items"] for _ in range(works[a])]
            ways = [units[:n] for n in range(len(units) + 1)]
        else:
            for way in itertools.product(*[range(works[a] + 1) for a in one["items"]]):
                ways.append([a for a, n in zip(one["items"], way) for _ in range(n)])
        breaking = [len(way) for way in ways if not one["holds"]([w - way.count(a) for a, w in enumerate(works)])]
        return min(breaking) if breaking else None

    def call_hard(self, condition):
        if condition not in range(8):
            return -1
        failures = [self.failures(one) for one in self.asked(condition)]
        return [0, min([n for n in failures if n is not None], default=-1)]

    def call_weak(self, condition):
        if condition not in range(8):
            return -1
        works, asked = self.works(), self.asked(condition)
        if not all(one["holds"](works) for one in asked):
            named = [a for a, w in enumerate(works) if w > 0]
        else:
            named = []
            for a, w in enumerate(works):
                after = works[:a] + [w - 1] + works[a + 1:]
                if w > 0 and any(not one["holds"](after) for one in asked):
                    named.append(a)
        return [len(named)] + named

    def call_state(self, a):
        if a not in range(len(self.items)):
            return -3
        shown = [n for unit in self.broken(a) for n in (unit["found"], self.last(a, unit))]
        one = self.items[a]
        return [self.size(a), self.works()[a], one["category"], one["hours"], len(shown)] + shown

    def call_rule(self, number):
        if number not in range(len(self.rules)):
            return -3
        return self.rules[number]["shown"]

    def call_totals(self):
        broken = [a for a in range(len(self.items)) for _ in self.broken(a)]
        hours = sum(self.items[a]["hours"] for a in broken)
        return [self.today, len(self.items), len(self.rules), len(broken), hours, len(self.events)]

    def call_log(self, k):
        if k < 0 or k > 100000:
            return -1
        shown = [n for event in self.events[k:][:50] for n in event]
        return [len(shown)] + shown


def near(chance, low, high):
    """Mostly within the range, now and then at or beyond its ends."""
    if chance.random() < 0.04:
        return chance.choice([low - 1, low, high, high + 1, LOWEST, HIGHEST])
    return chance.randint(low, high)


def some_rule(chance, kind, most_item, most_units):
    a, b = near(chance, 0, most_item), near(chance, 0, most_item)
    condition = chance.choice([8, near(chance, 0, 8), near(chance, 0, 1)])
    if kind == 2:
        return need(a, near(chance, 0, most_units), condition)
    if kind == 3:
        return pair(a, near(chance, 0, most_units), b, near(chance, 0, most_units), condition)
    size = chance.choice([0, 1, 2, 2, 3, 10, 11, 20])
    listed = [near(chance, 0, most_item) for _ in range(size)]
    if chance.random() < 0.5:
        listed = chance.sample(range(most_item + 1), min(size, most_item + 1))
    return group(near(chance, 0, chance.choice([2, 6, 80])), condition, listed)


def some_asking(chance, kind, most_item):
    condition = near(chance, 0, chance.choice([1, 7]))
    if kind == 12:
        return least(condition, near(chance, 0, chance.choice([0, 4, 30, 1000])))
    if kind == 15:
        return state(near(chance, 0, most_item))
    if kind == 16:
        return rule(near(chance, 0, chance.choice([3, 39])))
    if kind == 17:
        return TOTALS
    if kind == 18:
        return log(near(chance, 0, chance.choice([0, 50, 100, 100000])))
    return {10: go, 11: till, 13: hard, 14: weak}[kind](condition)


def some_call(chance, most_item, most_units, kinds):
    kind = chance.choices(range(19), kinds)[0]
    if kind == 0:
        return CLEAR
    if kind == 1:
        return item(near(chance, 1, most_units), near(chance, 0, 3), near(chance, 1, chance.choice([3, 100])))
    if 2 <= kind <= 4:
        return some_rule(chance, kind, most_item, most_units)
    if kind == 5:
        return categories(*[near(chance, 0, chance.choice([3, 8, 1000])) for _ in range(5)])
    if kind == 6:
        return day(near(chance, 1, chance.choice([1, 1, 2, 6, 1000])))
    if 7 <= kind <= 9:
        return (fail, repair, extend)[kind - 7](near(chance, 0, most_item))
    return some_asking(chance, kind, most_item)


# How often each call comes: mostly what happens to units, or mostly what is asked, by days or by rules.
HAPPENING = (0.2, 3, 2, 2, 2, 1.5, 6, 14, 8, 8, 1, 1, 0.3, 1, 1, 1, 1, 1, 1)
ASKING = (0.1, 0.5, 0.3, 0.6, 0.6, 1.5, 2, 10, 6, 4, 4, 4, 2, 4, 4, 2, 1, 1, 1)
BY_RULES = (0, 0, 0.1, 0.1, 0.1, 0, 0.2, 8, 7, 1, 3, 3, 2, 3, 3, 0.3, 0.3, 0.3, 0.3)


def some_line(chance, kinds):
    most_item, most_units = chance.choice([(0, 8), (2, 8), (4, 4), (9, 1), (9, 2), (9, 8)])
    calls = [item(chance.randint(1, most_units), chance.randint(0, 3), chance.choice([1, 2, 3, 100]))
             for _ in range(most_item + 1)]
    if kinds == BY_RULES:
        calls.append(categories(1000, 1000, 1000, 1000, chance.choice([0, 9])))
        calls += [some_rule(chance, chance.randint(2, 4), most_item, most_units) for _ in range(chance.randint(1, 12))]
    leasts = 0
    while len(calls) < 400:
        call = some_call(chance, most_item, most_units, kinds)
        leasts += call[0] == 12
        if call[0] != 12 or leasts <= 20:
            calls.append(call)
    return calls


class Model(unittest.TestCase):
    def compare(self, seeds, kinds):
        for seed in seeds:
            calls = some_line(random.Random(seed), kinds)
            plain = Plain()
            with self.subTest(seed=seed):
                self.assertEqual(told(*calls), [plain.answer(call) for call in calls])

    def test_lines_of_what_happens(self):
        self.compare(range(150), HAPPENING)

    def test_lines_of_what_is_asked(self):
        self.compare(range(1000, 1100), ASKING)

    def test_lines_of_what_is_asked_by_rules(self):
        self.compare(range(2000, 2120), BY_RULES)
