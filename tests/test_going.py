"""Promises 10 and 11: go, till."""

import unittest

from tests.helper import categories, day, extend, fail, go, group, item, need, pair, repair, reply, rule, till, told

MAY_GO = [1, 0, 0]
CONDITIONS = range(8)


def too_long(a):
    return [0, 2, a]


def broken_rule(number):
    return [0, 1, number]


class GoByDays(unittest.TestCase):
    def test_nothing_broken(self):
        for condition in CONDITIONS:
            self.assertEqual(reply(item(3), item(1), need(0, 3), day(1000), go(condition)), MAY_GO)

    def test_last_day_today_and_yesterday(self):
        for category, days in enumerate((0, 3, 10, 120)):
            broken = [item(2, category), day(5), fail()]
            self.assertEqual(reply(*broken, go()), MAY_GO)
            self.assertEqual(reply(*broken, day(days + 1), go()), too_long(0))
            if days > 0:
                self.assertEqual(reply(*broken, day(days), go()), MAY_GO)

    def test_last_day_of_an_extended_unit_today_and_yesterday(self):
        for category, days in ((1, 3), (2, 10), (3, 120)):
            broken = [item(2, category), day(5), fail(), day(days), extend()]
            self.assertEqual(reply(*broken, day(days), go()), MAY_GO)
            self.assertEqual(reply(*broken, day(days + 1), go()), too_long(0))

    def test_in_every_condition(self):
        for condition in CONDITIONS:
            self.assertEqual(reply(item(), fail(), day(1), go(condition)), too_long(0))

    def test_told_ahead_of_a_broken_rule(self):
        broken = [item(1, 1), item(1, 0), need(0, 1), group(0, 8, [0, 1]), fail(0), fail(1)]
        self.assertEqual(reply(*broken, go()), broken_rule(0))
        self.assertEqual(reply(*broken, day(1), go()), too_long(1))

    def test_of_several_items_the_first(self):
        broken = [item(1, 3), item(1, 2), item(1, 1), item(1, 0), fail(3), fail(2), fail(1), fail(0)]
        for days, a in ((1, 3), (3, 3), (4, 2), (10, 2), (11, 1), (120, 1), (121, 0)):
            self.assertEqual(reply(*broken, day(days), go()), too_long(a))

    def test_not_only_the_oldest_unit_is_looked_at(self):
        # The older one was extended, so the newer one's last day comes first.
        broken = [item(2, 1), fail(), extend(), day(1), fail()]
        self.assertEqual(reply(*broken, day(3), go()), MAY_GO)
        self.assertEqual(reply(*broken, day(4), go()), too_long(0))
        self.assertEqual(reply(*broken, day(4), repair(), go()), too_long(0))
        self.assertEqual(reply(*broken, day(4), repair(), repair(), go()), MAY_GO)

    def test_the_days_of_the_categories_as_they_are_then(self):
        given = told(item(1, 1), fail(), day(4), go(), categories(0, 4, 0, 0), go(), categories(9, 3, 9, 9), go())
        self.assertEqual([given[3], given[5], given[7]], [too_long(0), MAY_GO, too_long(0)])
        given = told(item(1, 3), fail(), extend(), day(4), go(), categories(0, 0, 0, 1), go(), categories(0, 0, 0, 2),
                     go())
        self.assertEqual([given[4], given[6], given[8]], [MAY_GO, too_long(0), MAY_GO])

    def test_a_unit_that_came_back_is_as_old_as_it_was(self):
        broken = [item(1, 1), categories(0, 3, 0, 0, 100), fail(), day(4), repair()]
        self.assertEqual(reply(*broken, go()), MAY_GO)
        self.assertEqual(reply(*broken, fail(), go()), too_long(0))


class GoByRules(unittest.TestCase):
    def test_need(self):
        for x in range(4):
            for failures in range(4):
                given = reply(item(3), need(0, x), *[fail()] * failures, go())
                self.assertEqual(given, MAY_GO if 3 - failures >= x else broken_rule(0))

    def test_need_of_another_item(self):
        self.assertEqual(reply(item(2), item(2), need(1, 2), fail(0), fail(0), go()), MAY_GO)
        self.assertEqual(reply(item(2), item(2), need(1, 2), fail(1), go()), broken_rule(0))

    def test_pair(self):
        for x in range(3):
            for y in range(4):
                for of_a in range(3):
                    for of_b in range(4):
                        given = reply(item(3), item(2), pair(1, x, 0, y), *[fail(1)] * of_a, *[fail(0)] * of_b, go())
                        held = 2 - of_a >= x or 3 - of_b >= y
                        self.assertEqual(given, MAY_GO if held else broken_rule(0), (x, y, of_a, of_b))

    def test_group(self):
        told_before = [item(2), item(8), item(2), group(2, 8, [2, 0])]
        for failed, given in (([0, 0], MAY_GO), ([2, 2], MAY_GO), ([0, 2], MAY_GO), ([0, 2, 1, 1, 1], MAY_GO),
                              ([0, 0, 2], broken_rule(0)), ([2, 2, 0], broken_rule(0)),
                              ([0, 0, 2, 2], broken_rule(0))):
            self.assertEqual(reply(*told_before, *[fail(a) for a in failed], go()), given)

    def test_group_of_nought(self):
        self.assertEqual(reply(item(2), group(0, 8, [0]), go()), MAY_GO)
        self.assertEqual(reply(item(2), group(0, 8, [0]), fail(), go()), broken_rule(0))

    def test_group_with_an_empty_list(self):
        for condition in CONDITIONS:
            self.assertEqual(reply(item(1), fail(), group(0, 8, []), go(condition)), MAY_GO)
        self.assertEqual(reply(group(0, 8, []), go()), MAY_GO)

    def test_of_several_broken_rules_the_first_asked(self):
        rules = [need(0, 0, 8), need(0, 2, 3), group(1, 4, [0, 1]), pair(0, 2, 1, 2, 3), need(1, 2, 8)]
        broken = [item(2), item(2), *rules, fail(0), fail(1)]
        self.assertEqual(reply(*broken, go(3)), broken_rule(1))
        self.assertEqual(reply(*broken, go(4)), broken_rule(2))
        self.assertEqual(reply(*broken, go(5)), broken_rule(4))
        self.assertEqual(reply(*broken, repair(0), go(3)), broken_rule(4))
        self.assertEqual(reply(*broken, repair(0), go(4)), broken_rule(4))
        self.assertEqual(reply(*broken, repair(1), go(3)), broken_rule(1))
        self.assertEqual(reply(*broken, repair(1), go(4)), MAY_GO)

    def test_a_rule_is_asked_in_its_condition_alone(self):
        for kind in (lambda c: need(0, 1, c), lambda c: pair(0, 1, 1, 1, c), lambda c: group(1, c, [0, 1])):
            for of_rule in CONDITIONS:
                for condition in CONDITIONS:
                    given = reply(item(1), item(1), kind(of_rule), fail(0), fail(1), go(condition))
                    self.assertEqual(given, broken_rule(0) if of_rule == condition else MAY_GO)

    def test_a_rule_of_all_conditions_is_asked_in_each(self):
        for kind in (need(0, 1, 8), pair(0, 1, 1, 1, 8), group(1, 8, [0, 1])):
            for condition in CONDITIONS:
                given = reply(item(1), item(1), kind, fail(0), fail(1), go(condition))
                self.assertEqual(given, broken_rule(0))

    def test_a_rule_told_when_it_is_broken_already(self):
        self.assertEqual(reply(item(1), fail(), go(), need(0, 1), go()), broken_rule(0))

    def test_a_refused_rule_is_not_asked(self):
        given = reply(item(1), fail(), need(0, 2), pair(0, 1, 0, 1), group(0, 8, [0, 0]), go())
        self.assertEqual(given, MAY_GO)

    def test_forty_rules(self):
        rules = [need(0, 0, 8)] * 39 + [need(0, 1, 7)]
        self.assertEqual(reply(item(1), *rules, fail(), go(7)), broken_rule(39))
        self.assertEqual(reply(item(1), *rules, fail(), go(6)), MAY_GO)
        self.assertEqual(reply(item(1), *rules, fail(), rule(39)), [0, 0, 1, 0, 0, 7, 0])


class Till(unittest.TestCase):
    def test_for_ever_where_nothing_is_broken(self):
        for condition in CONDITIONS:
            self.assertEqual(reply(item(2), need(0, 2), day(7), till(condition)), [0, -1])
        self.assertEqual(reply(item(2), fail(), repair(), till()), [0, -1])

    def test_not_possible_by_a_unit_left_too_long(self):
        broken = [item(1, 1), day(5), fail()]
        self.assertEqual(reply(*broken, day(3), till()), [0, 8])
        for condition in CONDITIONS:
            self.assertEqual(reply(*broken, day(4), till(condition)), [-6])

    def test_not_possible_by_a_rule(self):
        for kind in (need(0, 1, 3), pair(0, 1, 1, 1, 3), group(1, 3, [0, 1])):
            broken = [item(1, 1), item(1, 2), kind, fail(0), fail(1)]
            self.assertEqual(reply(*broken, till(3)), [-6])
            self.assertEqual(reply(*broken, till(2)), [0, 3])
        self.assertEqual(reply(item(2, 1), need(0, 2, 8), fail(), till(6)), [-6])

    def test_not_possible_by_another_item(self):
        self.assertEqual(reply(item(1, 3), item(1, 0), fail(0), fail(1), day(1), till()), [-6])

    def test_the_last_day_is_today(self):
        self.assertEqual(reply(item(1, 0), fail(), till()), [0, 0])
        self.assertEqual(reply(item(1, 0), day(9), fail(), till()), [0, 9])
        self.assertEqual(reply(item(1, 2), day(9), fail(), day(10), till()), [0, 19])

    def test_the_least_of_all_items(self):
        broken = [item(1, 3), item(1, 1), item(1, 2), fail(2), day(6), fail(1), fail(0)]
        self.assertEqual(reply(*broken, till()), [0, 9])
        self.assertEqual(reply(*broken, repair(1), till()), [0, 10])
        self.assertEqual(reply(*broken, repair(1), repair(2), till()), [0, 126])
        self.assertEqual(reply(*broken, repair(0), till()), [0, 9])
        self.assertEqual(reply(*broken, extend(1), till()), [0, 10])
        self.assertEqual(reply(*broken, extend(1), extend(2), till()), [0, 12])

    def test_the_least_of_the_units_of_one_item(self):
        broken = [item(3, 2), fail(), extend(), day(4), fail(), day(1), fail()]
        self.assertEqual(reply(*broken, till()), [0, 14])
        self.assertEqual(reply(*broken, extend(), till()), [0, 15])
        self.assertEqual(reply(*broken, extend(), extend(), till()), [0, 20])

    def test_the_days_of_the_categories_as_they_are_then(self):
        broken = [item(1, 1), item(1, 2), fail(0), fail(1), extend(1)]
        self.assertEqual(reply(*broken, till()), [0, 3])
        self.assertEqual(reply(*broken, categories(0, 30, 7, 0), till()), [0, 14])
        self.assertEqual(reply(*broken, day(1), categories(0, 0, 7, 0), till()), [-6])

    def test_it_may_go_on_that_day_and_not_on_the_next(self):
        broken = [item(2, 2), item(1, 1), day(3), fail(0), extend(0), day(1), fail(0), fail(1), extend(1)]
        self.assertEqual(reply(*broken, till()), [0, 10])
        self.assertEqual(reply(*broken, day(6), go()), MAY_GO)
        self.assertEqual(reply(*broken, day(7), go()), too_long(1))

    def test_units_of_items_no_rule_names_count_too(self):
        self.assertEqual(reply(item(1, 3), item(1, 1), need(0, 0), fail(0), fail(1), till()), [0, 3])
