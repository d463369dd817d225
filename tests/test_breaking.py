"""Promises 13 and 14: hard, weak."""

import unittest

from tests.helper import (TOTALS, categories, day, fail, go, group, hard, item, log, need, pair, repair, reply, state,
                          told, weak)

CONDITIONS = range(8)
NONE_CAN = [0, -1]


class Hard(unittest.TestCase):
    def test_no_rule(self):
        self.assertEqual(reply(item(8), item(8), fail(0), hard()), NONE_CAN)

    def test_need(self):
        for x in range(1, 5):
            for failures in range(5):
                more = max(0, 4 - failures - x + 1)
                self.assertEqual(reply(item(4), need(0, x), *[fail()] * failures, hard()), [0, more])

    def test_need_of_no_unit(self):
        for failures in range(3):
            self.assertEqual(reply(item(2), need(0, 0), *[fail()] * failures, hard()), NONE_CAN)

    def test_a_pair_where_both_sides_must_break(self):
        for x in range(1, 3):
            for y in range(1, 4):
                for of_a in range(3):
                    for of_b in range(4):
                        told_before = [item(3), item(2), pair(1, x, 0, y), *[fail(1)] * of_a, *[fail(0)] * of_b]
                        more = max(0, 2 - of_a - x + 1) + max(0, 3 - of_b - y + 1)
                        self.assertEqual(reply(*told_before, hard()), [0, more], (x, y, of_a, of_b))

    def test_a_pair_with_a_side_of_which_no_unit_is_asked(self):
        for sides in (pair(0, 0, 1, 2), pair(0, 2, 1, 0), pair(0, 0, 1, 0)):
            self.assertEqual(reply(item(2), item(2), sides, hard()), NONE_CAN)
            self.assertEqual(reply(item(2), item(2), sides, *[fail(0), fail(1)] * 2, hard()), NONE_CAN)

    def test_group(self):
        for k in range(5):
            for failures in range(6):
                failed = [fail(a) for a in (2, 0, 2, 0, 2)[:failures]]
                told_before = [item(2), item(8), item(3), group(k, 8, [2, 0]), fail(1), *failed]
                self.assertEqual(reply(*told_before, hard()), [0, max(0, k - failures + 1)])

    def test_a_group_whose_items_have_k_units_or_fewer(self):
        items = [item(2), item(8), item(3)]
        self.assertEqual(reply(*items, group(4, 8, [2, 0]), hard()), [0, 5])
        self.assertEqual(reply(*items, group(5, 8, [2, 0]), hard()), NONE_CAN)
        self.assertEqual(reply(*items, group(6, 8, [2, 0]), hard()), NONE_CAN)
        self.assertEqual(reply(*items, group(5, 8, [2, 0]), fail(0), fail(0), hard()), NONE_CAN)
        self.assertEqual(reply(*items, group(80, 8, [2, 0, 1]), hard()), NONE_CAN)
        self.assertEqual(reply(*[item(8)] * 10, group(80, 8, range(10)), hard()), NONE_CAN)
        self.assertEqual(reply(*[item(8)] * 10, group(79, 8, range(10)), hard()), [0, 80])

    def test_a_group_with_an_empty_list(self):
        self.assertEqual(reply(item(2), fail(), group(0, 8, []), hard()), NONE_CAN)

    def test_nought_where_a_rule_is_broken(self):
        for kind in (need(0, 1), pair(0, 1, 1, 1), group(1, 8, [0, 1])):
            broken = [item(1), item(1), item(8), need(2, 8), need(2, 0), kind, fail(0), fail(1)]
            self.assertEqual(reply(*broken, hard()), [0, 0])

    def test_nought_where_all_units_are_broken(self):
        self.assertEqual(reply(item(1), need(0, 1), fail(), hard()), [0, 0])
        self.assertEqual(reply(item(1), group(0, 8, [0]), fail(), hard()), [0, 0])

    def test_the_least_over_several_rules(self):
        rules = [need(0, 1), pair(0, 4, 1, 4), group(2, 8, [1]), need(1, 0)]
        for turned in (rules, rules[::-1]):
            self.assertEqual(reply(item(4), item(4), *turned, hard()), [0, 2])
        for number, more in ((0, 4), (1, 2), (2, 3), (3, -1)):
            self.assertEqual(reply(item(4), item(4), rules[number], hard()), [0, more])
        self.assertEqual(reply(item(4), item(4), rules[0], rules[2], rules[3], hard()), [0, 3])

    def test_rules_asked_in_that_condition(self):
        for of_rule in CONDITIONS:
            for condition in CONDITIONS:
                told_before = [item(8), need(0, 8, of_rule), need(0, 4, 8)]
                self.assertEqual(reply(*told_before, hard(condition)), [0, 1 if of_rule == condition else 5])
                self.assertEqual(reply(*told_before[:2], hard(condition)), [0, 1 if of_rule == condition else -1])

    def test_units_left_too_long_play_no_part(self):
        broken = [item(4, 0), need(0, 2), fail(), day(1000)]
        self.assertEqual(reply(*broken, go()), [0, 2, 0])
        self.assertEqual(reply(*broken, hard()), [0, 2])
        self.assertEqual(reply(*broken[:1], fail(), day(1000), hard()), NONE_CAN)

    def test_after_a_repair_it_is_harder(self):
        self.assertEqual(reply(item(4), need(0, 2), fail(), fail(), repair(), hard()), [0, 2])

    def test_after_so_many_failures_a_rule_is_broken(self):
        told_before = [item(3), item(2), pair(0, 2, 1, 2), group(4, 8, [0, 1])]
        self.assertEqual(reply(*told_before, hard()), [0, 3])
        self.assertEqual(reply(*told_before, fail(0), fail(0), go()), [1, 0, 0])
        self.assertEqual(reply(*told_before, fail(0), fail(0), fail(1), go()), [0, 1, 0])


class Weak(unittest.TestCase):
    def test_no_rule(self):
        self.assertEqual(reply(item(1), item(1), weak()), [0])

    def test_need(self):
        for x in range(4):
            for failures in range(4):
                given = reply(item(3), need(0, x), *[fail()] * failures, weak())
                works = 3 - failures
                self.assertEqual(given, [1, 0] if works > 0 and works - 1 < x else [0])

    def test_pair(self):
        told_before = [item(2), item(2), pair(0, 2, 1, 2)]
        self.assertEqual(reply(*told_before, weak()), [0])
        self.assertEqual(reply(*told_before, fail(0), weak()), [1, 1])
        self.assertEqual(reply(*told_before, fail(1), weak()), [1, 0])
        self.assertEqual(reply(*told_before, fail(0), fail(0), weak()), [1, 1])
        self.assertEqual(reply(*told_before, fail(0), fail(1), weak()), [2, 0, 1])

    def test_a_pair_with_a_side_of_which_no_unit_is_asked(self):
        self.assertEqual(reply(item(1), item(1), pair(0, 1, 1, 0), fail(1), weak()), [0])

    def test_group(self):
        told_before = [item(2), item(8), item(3), group(2, 8, [2, 0])]
        self.assertEqual(reply(*told_before, fail(1), fail(0), weak()), [0])
        self.assertEqual(reply(*told_before, fail(1), fail(0), fail(2), weak()), [2, 0, 2])
        self.assertEqual(reply(*told_before, fail(0), fail(0), weak()), [1, 2])
        self.assertEqual(reply(*told_before, fail(2), fail(2), weak()), [2, 0, 2])

    def test_a_group_with_an_empty_list(self):
        self.assertEqual(reply(item(1), group(0, 8, []), weak()), [0])

    def test_several_rules_each_with_its_items_and_none_twice(self):
        rules = [need(3, 1), need(1, 1), group(0, 8, [1, 4]), pair(0, 1, 3, 1)]
        self.assertEqual(reply(*[item(1)] * 5, *rules, weak()), [3, 1, 3, 4])

    def test_the_least_first(self):
        rules = [group(0, 8, [9, 3, 5]), need(7, 1), need(0, 1)]
        self.assertEqual(reply(*[item(1)] * 10, *rules, weak()), [5, 0, 3, 5, 7, 9])

    def test_items_of_which_no_unit_works_are_not_named(self):
        told_before = [item(1), item(1), item(2), group(2, 8, [0, 1, 2])]
        self.assertEqual(reply(*told_before, fail(0), fail(2), weak()), [2, 1, 2])
        self.assertEqual(reply(*told_before, fail(0), fail(1), weak()), [1, 2])

    def test_where_one_is_broken_already_all_of_which_some_unit_works(self):
        told_before = [item(1), item(2), item(1), item(8), need(1, 2), fail(1)]
        self.assertEqual(reply(*told_before, weak()), [4, 0, 1, 2, 3])
        self.assertEqual(reply(*told_before, fail(2), weak()), [3, 0, 1, 3])
        self.assertEqual(reply(*told_before, fail(1), fail(2), weak()), [2, 0, 3])
        self.assertEqual(reply(item(1), need(0, 1), fail(), weak()), [0])

    def test_rules_asked_in_that_condition(self):
        for of_rule in CONDITIONS:
            for condition in CONDITIONS:
                asked = of_rule == condition
                told_before = [item(1), item(1), need(1, 1, of_rule)]
                self.assertEqual(reply(*told_before, weak(condition)), [1, 1] if asked else [0])
                self.assertEqual(reply(*told_before, fail(1), weak(condition)), [1, 0] if asked else [0])
        for condition in CONDITIONS:
            self.assertEqual(reply(item(1), item(1), need(1, 1, 8), weak(condition)), [1, 1])

    def test_units_left_too_long_play_no_part(self):
        broken = [item(3, 0), item(2, 0), need(0, 2), fail(1), day(1000)]
        self.assertEqual(reply(*broken, go()), [0, 2, 1])
        self.assertEqual(reply(*broken, weak()), [0])
        self.assertEqual(reply(*broken, fail(0), weak()), [1, 0])

    def test_nothing_fails_by_asking(self):
        broken = [item(2, 1), item(2, 2), need(0, 2), need(1, 1), categories(1, 2, 3, 4, 5), fail(1), repair(1), fail(1)]
        look = [state(0), state(1), TOTALS, log(0), go()]
        before = told(*broken, *look)[-5:]
        self.assertEqual(told(*broken, weak(), hard(), *look)[-5:], before)
        self.assertEqual(told(*broken, weak(), hard(), weak(), hard())[-4:], [[2, 0, 1], [0, 1]] * 2)
