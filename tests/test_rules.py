"""Promises 2, 3 and 4: need, pair, group."""

import unittest

from tests.helper import HIGHEST, LOWEST, fail, firsts, group, item, last, need, pair

# Items of 2, 3 and 8 units.
READY = [item(2), item(3), item(8)]
NOT_THERE = (-1, -2, -3, 3, 4, 10, LOWEST, HIGHEST)


def after(*calls):
    return firsts(*READY, *calls)[len(READY):]


class AllKinds(unittest.TestCase):
    def test_numbered_together_in_the_order_told(self):
        given = after(need(0), pair(0, 0, 1, 0), group(0, 0, []), group(0, 0, [2]), need(2), pair(2, 0, 0, 0))
        self.assertEqual(given, [0, 1, 2, 3, 4, 5])

    def test_the_same_rule_twice(self):
        self.assertEqual(after(*[need(0, 1, 1)] * 2, *[group(1, 1, [0, 1])] * 2), [0, 1, 2, 3])

    def test_forty_and_one_more_of_each_kind(self):
        kinds = [need(0), pair(0, 0, 1, 0), group(0, 0, [])]
        forty = [kinds[k % 3] for k in range(40)]
        for one_more in kinds:
            self.assertEqual(after(*forty, one_more, one_more)[39:], [39, -2, -2])

    def test_a_refused_rule_is_not_there(self):
        refused = [need(0, 9), need(3), need(0, 3), pair(0, 9, 1, 0), pair(0, 0, 3, 0), pair(0, 0, 0, 0),
                   group(81, 0, []), group(0, 0, [3]), group(0, 0, [0, 0])]
        self.assertEqual(after(*refused, need(0)), [-1, -3, -8] * 3 + [0])

    def test_the_order_of_refusals_with_forty_rules(self):
        refused = [need(0, 9), need(3), need(0, 3), pair(0, 9, 1, 0), pair(0, 0, 3, 0), pair(0, 0, 0, 0),
                   group(81, 0, []), group(0, 0, [3]), group(0, 0, [0, 0])]
        given = after(*[need(0)] * 40, *refused, need(0))
        self.assertEqual(given[40:], [-1, -3, -8] * 3 + [-2])

    def test_no_rule_keeps_a_unit_from_failing(self):
        given = after(need(0, 2), pair(0, 2, 1, 3), group(0, 8, [0, 1, 2]), fail(0), fail(0), fail(0))
        self.assertEqual(given[3:], [1, 0, -4])


class Need(unittest.TestCase):
    def test_as_many_units_as_there_are_and_one_more(self):
        self.assertEqual(after(need(0, 2), need(0, 3), need(1, 3), need(1, 4), need(2, 8)), [0, -8, 1, -8, 2])

    def test_all_units_count_and_not_those_that_work(self):
        self.assertEqual(after(fail(0), fail(0), need(0, 2)), [1, 0, 0])

    def test_no_such_item(self):
        for a in NOT_THERE:
            self.assertEqual(after(need(a, 0, 0)), [-3])
        self.assertEqual(last(need(0)), -3)

    def test_out_of_range_ahead_of_no_such_item(self):
        for a in NOT_THERE:
            self.assertEqual(after(need(a, 9, 0), need(a, 0, 9), need(a, -1, 0), need(a, 0, -1)), [-1] * 4)

    def test_out_of_range_ahead_of_too_few_units(self):
        self.assertEqual(after(need(0, 3, 9), need(0, 9, 0)), [-1, -1])

    def test_no_such_item_ahead_of_too_few_units(self):
        self.assertEqual(after(need(3, 8, 0)), [-3])
        self.assertEqual(after(need(-3, 8, 0)), [-3])


class Pair(unittest.TestCase):
    def test_as_many_units_as_there_are_and_one_more(self):
        given = after(pair(0, 2, 1, 3), pair(0, 3, 1, 3), pair(0, 2, 1, 4), pair(0, 3, 1, 4), pair(1, 3, 0, 2),
                      pair(1, 2, 0, 3))
        self.assertEqual(given, [0, -8, -8, -8, 1, -8])

    def test_all_units_count_and_not_those_that_work(self):
        self.assertEqual(after(fail(0), fail(1), pair(0, 2, 1, 3)), [1, 2, 0])

    def test_an_item_with_itself(self):
        self.assertEqual(after(pair(0, 0, 0, 0), pair(2, 1, 2, 8)), [-8, -8])

    def test_no_such_item(self):
        for a in NOT_THERE:
            given = after(pair(a, 0, 0, 0), pair(0, 0, a, 0), pair(a, 0, a, 0), pair(a, 0, 3, 0))
            self.assertEqual(given, [-3] * 4)

    def test_out_of_range_ahead_of_no_such_item(self):
        for a in NOT_THERE:
            given = after(pair(a, 9, 0, 0), pair(a, 0, 0, 9), pair(a, 0, 0, 0, 9), pair(0, 9, a, 0),
                          pair(0, 0, a, -1), pair(0, 0, a, 0, -1))
            self.assertEqual(given, [-1] * 6)

    def test_out_of_range_ahead_of_what_does_not_fit(self):
        self.assertEqual(after(pair(0, 0, 0, 0, 9), pair(0, 3, 1, 9), pair(0, 0, 0, 9)), [-1] * 3)

    def test_no_such_item_ahead_of_what_does_not_fit(self):
        self.assertEqual(after(pair(0, 3, 3, 0), pair(3, 0, 0, 3), pair(-1, 0, -1, 0)), [-3] * 3)


class Group(unittest.TestCase):
    def test_lists_of_every_length(self):
        for listed in ([], [2], [2, 0], [1, 0, 2]):
            self.assertEqual(after(group(0, 0, listed)), [0])

    def test_ten_items(self):
        ten = [item()] * 10
        self.assertEqual(last(*ten, group(0, 0, [9, 8, 7, 6, 5, 4, 3, 2, 1, 0])), 0)

    def test_more_broken_allowed_than_there_are_units(self):
        self.assertEqual(after(group(80, 8, []), group(80, 8, [0])), [0, 1])

    def test_an_item_twice(self):
        for listed in ([0, 0], [0, 1, 0], [2, 1, 0, 1], [0] * 10):
            self.assertEqual(after(group(0, 0, listed)), [-8])

    def test_no_such_item(self):
        for a in NOT_THERE:
            for listed in ([a], [a, 0], [0, a], [0, a, 1], [0, 1, 2, a]):
                self.assertEqual(after(group(0, 0, listed)), [-3])

    def test_out_of_range_ahead_of_no_such_item(self):
        for a in NOT_THERE:
            given = after(group(81, 0, [a]), group(0, 9, [a]), group(-1, 0, [a]), group(0, -1, [a]),
                          group(0, 0, [a] * 11), group(0, 0, range(11)))
            self.assertEqual(given, [-1] * 6)

    def test_out_of_range_ahead_of_an_item_twice(self):
        self.assertEqual(after(group(81, 0, [0, 0]), group(0, 9, [0, 0]), group(0, 0, [0] * 11)), [-1] * 3)

    def test_no_such_item_ahead_of_an_item_twice(self):
        self.assertEqual(after(group(0, 0, [0, 0, 3]), group(0, 0, [3, 3]), group(0, 0, [-1, -1])), [-3] * 3)
