"""Promise 12: least."""

import unittest

from tests.helper import (TOTALS, categories, day, extend, fail, go, group, item, least, log, need, pair, repair, reply,
                          state, till, told)

# As many failures of each item as make the product just 5000, and the next product that can be: 5040.
JUST_5000 = (1, 1, 1, 4, 4, 4, 4)
JUST_5040 = (6, 7, 8, 1, 4)


def all_broken(counts, hours=1):
    """Items of just so many units (1 where nothing is to fail), and their failures."""
    calls = [item(max(1, count), 3, hours) for count in counts]
    return calls + [fail(a) for a in range(len(counts)) for _ in range(counts[a])]


def costing(*hours, units=1):
    return [item(units, 3, one) for one in hours]


class TooManyWays(unittest.TestCase):
    def test_just_5000(self):
        self.assertEqual(reply(*all_broken(JUST_5000), least()), [0, 0] + [0] * 7)
        self.assertEqual(reply(*all_broken(JUST_5000), group(0, 8, range(7)), least()), [0, 19] + list(JUST_5000))

    def test_more_than_5000(self):
        self.assertEqual(reply(*all_broken(JUST_5040), least()), [-7])
        self.assertEqual(reply(*all_broken((8,) * 10), least()), [-7])

    def test_one_failure_more(self):
        broken = all_broken(JUST_5000)
        self.assertEqual(reply(*broken, item(1), fail(7), least()), [-7])
        self.assertEqual(reply(*broken, item(1), fail(7), repair(7), least())[0], 0)
        self.assertEqual(reply(*broken, item(1), fail(7), repair(0), least())[0], 0)

    def test_items_with_nothing_broken_do_not_count(self):
        self.assertEqual(reply(*all_broken(JUST_5000 + (0, 0, 0)), least()), [0, 0] + [0] * 10)

    def test_units_that_work_do_not_count(self):
        eight = [item(8)] * 10
        self.assertEqual(reply(*eight, *[fail(a) for a in range(10)], least()), [0, 0] + [0] * 10)

    def test_units_that_have_to_be_repaired_at_any_rate_count_too(self):
        self.assertEqual(reply(*all_broken(JUST_5040), day(500), least()), [-7])
        self.assertEqual(reply(*all_broken(JUST_5000), day(500), least()), [0, 19] + list(JUST_5000))

    def test_out_of_range_ahead_of_too_many(self):
        broken = all_broken(JUST_5040)
        for call in (least(8, 0), least(-1, 0), least(0, 1001), least(0, -1)):
            self.assertEqual(reply(*broken, call), [-1])


class NothingToRepair(unittest.TestCase):
    def test_nothing_broken(self):
        self.assertEqual(reply(item(1), item(2), need(0, 1), need(1, 2), least(3, 1000)), [0, 0, 0, 0])

    def test_no_item(self):
        self.assertEqual(reply(least(7, 1000)), [0, 0])

    def test_broken_but_allowed(self):
        broken = [item(2, 2), item(2, 2), need(0, 1), pair(0, 2, 1, 1), group(2, 8, [0, 1]), fail(0), fail(1)]
        self.assertEqual(reply(*broken, least(0, 10)), [0, 0, 0, 0])


class ByDays(unittest.TestCase):
    def test_last_day_just_after_h_days_and_one_day_less(self):
        for category, days in enumerate((0, 3, 10, 120)):
            broken = [item(1, category, 7), day(5), fail()]
            self.assertEqual(reply(*broken, least(0, days)), [0, 0, 0])
            self.assertEqual(reply(*broken, least(0, days + 1)), [0, 7, 1])
            self.assertEqual(reply(*broken, least(0, 1000)), [0, 7, 1])

    def test_some_days_later(self):
        broken = [item(1, 2, 7), day(5), fail(), day(4)]
        self.assertEqual(reply(*broken, least(0, 6)), [0, 0, 0])
        self.assertEqual(reply(*broken, least(0, 7)), [0, 7, 1])

    def test_h_nought_asks_for_today_alone(self):
        broken = [item(1, 1, 7), fail()]
        self.assertEqual(reply(*broken, day(3), least(0, 0)), [0, 0, 0])
        self.assertEqual(reply(*broken, day(4), least(0, 0)), [0, 7, 1])

    def test_extended_units_last_longer(self):
        broken = [item(1, 2, 7), fail(), day(10), extend()]
        self.assertEqual(reply(*broken, least(0, 10)), [0, 0, 0])
        self.assertEqual(reply(*broken, least(0, 11)), [0, 7, 1])

    def test_the_oldest_units_first(self):
        broken = [item(3, 2, 7), fail(), day(2), fail(), day(2), fail()]
        for h, repairs in ((6, 0), (7, 1), (8, 1), (9, 2), (10, 2), (11, 3), (1000, 3)):
            self.assertEqual(reply(*broken, least(0, h)), [0, 7 * repairs, repairs])

    def test_an_older_unit_that_lasts_longer_is_repaired_first_nevertheless(self):
        broken = [item(3, 2, 7), fail(), extend(), day(2), fail(), day(1), fail()]
        for h, repairs in ((9, 0), (10, 2), (11, 3), (17, 3)):
            self.assertEqual(reply(*broken, least(0, h)), [0, 7 * repairs, repairs])
        broken = [item(3, 2, 7), fail(), extend(), day(2), fail(), day(1), fail(), extend(), extend()]
        for h, repairs in ((17, 0), (18, 1), (19, 1), (20, 2), (21, 3)):
            self.assertEqual(reply(*broken, least(0, h)), [0, 7 * repairs, repairs])

    def test_a_newer_extended_unit_stays(self):
        broken = [item(2, 2, 7), fail(), fail(), extend(), day(1)]
        self.assertEqual(reply(*broken, least(0, 9)), [0, 0, 0])
        self.assertEqual(reply(*broken, least(0, 10)), [0, 7, 1])
        self.assertEqual(reply(*broken, least(0, 19)), [0, 7, 1])
        self.assertEqual(reply(*broken, least(0, 20)), [0, 14, 2])

    def test_each_item_by_its_category(self):
        broken = [item(1, 3, 1), item(1, 2, 10), item(1, 1, 100), fail(0), fail(1), fail(2)]
        for h, repairs in ((3, [0, 0, 0]), (4, [0, 0, 1]), (11, [0, 1, 1]), (121, [1, 1, 1])):
            hours = repairs[0] + 10 * repairs[1] + 100 * repairs[2]
            self.assertEqual(reply(*broken, least(0, h)), [0, hours] + repairs)

    def test_the_days_of_the_categories_as_they_are_then(self):
        broken = [item(1, 1, 7), fail(), categories(0, 50, 0, 0)]
        self.assertEqual(reply(*broken, least(0, 50)), [0, 0, 0])
        self.assertEqual(reply(*broken, least(0, 51)), [0, 7, 1])


class ByRules(unittest.TestCase):
    def test_need(self):
        for x in range(5):
            for failures in range(5):
                repairs = max(0, x - (4 - failures))
                given = reply(item(4, 3, 9), need(0, x), *[fail()] * failures, least())
                self.assertEqual(given, [0, 9 * repairs, repairs])

    def test_days_and_needs_together_are_not_added(self):
        broken = [item(3, 1, 9), need(0, 1), fail(), fail(), day(2), fail()]
        self.assertEqual(reply(*broken, least(0, 1)), [0, 9, 1])
        self.assertEqual(reply(*broken, least(0, 2)), [0, 18, 2])
        self.assertEqual(reply(*broken, need(0, 3), least(0, 2)), [0, 27, 3])

    def test_a_pair_is_mended_on_the_side_with_fewer_hours(self):
        for hours, given in (((5, 6), [0, 5, 1, 0]), ((6, 5), [0, 5, 0, 1])):
            broken = [*costing(*hours), fail(0), fail(1)]
            self.assertEqual(reply(*broken, pair(0, 1, 1, 1), least()), given)
            self.assertEqual(reply(*broken, pair(1, 1, 0, 1), least()), given)

    def test_a_pair_with_as_few_hours_on_either_side(self):
        broken = [*costing(5, 5), fail(0), fail(1)]
        self.assertEqual(reply(*broken, pair(0, 1, 1, 1), least()), [0, 5, 0, 1])
        self.assertEqual(reply(*broken, pair(1, 1, 0, 1), least()), [0, 5, 0, 1])

    def test_a_pair_by_how_many_are_missing(self):
        broken = [*costing(5, 3, units=3), *[fail(0)] * 3, *[fail(1)] * 3]
        self.assertEqual(reply(*broken, pair(0, 1, 1, 2), least()), [0, 5, 1, 0])
        self.assertEqual(reply(*broken, pair(0, 1, 1, 1), least()), [0, 3, 0, 1])
        self.assertEqual(reply(*broken, pair(0, 2, 1, 3), least()), [0, 9, 0, 3])

    def test_a_pair_that_holds_by_one_side(self):
        self.assertEqual(reply(*costing(5, 5), pair(0, 1, 1, 1), fail(1), least()), [0, 0, 0, 0])
        self.assertEqual(reply(*costing(5, 5), pair(0, 1, 1, 0), fail(0), fail(1), least()), [0, 0, 0, 0])

    def test_a_group_by_the_cheapest_units(self):
        broken = [*costing(4, 2, 3, units=2), *[fail(a) for a in (0, 0, 1, 1, 2, 2)]]
        for k, given in ((6, [0, 0, 0, 0, 0]), (5, [0, 2, 0, 1, 0]), (4, [0, 4, 0, 2, 0]), (3, [0, 7, 0, 2, 1]),
                         (2, [0, 10, 0, 2, 2]), (1, [0, 14, 1, 2, 2]), (0, [0, 18, 2, 2, 2])):
            self.assertEqual(reply(*broken, group(k, 8, [2, 0, 1]), least()), given)

    def test_a_group_leaves_items_out_that_it_does_not_list(self):
        broken = [*costing(4, 2, 3), fail(0), fail(1), fail(2)]
        self.assertEqual(reply(*broken, group(0, 8, [0, 2]), least()), [0, 7, 1, 0, 1])
        self.assertEqual(reply(*broken, group(0, 8, []), least()), [0, 0, 0, 0, 0])

    def test_one_repair_for_two_rules(self):
        # Item 0 alone mends both pairs; by themselves items 1 and 2 would each be cheaper.
        broken = [*costing(5, 3, 4), pair(0, 1, 1, 1), pair(2, 1, 0, 1), fail(0), fail(1), fail(2)]
        self.assertEqual(reply(*broken, least()), [0, 5, 1, 0, 0])

    def test_a_unit_that_is_too_old_counts_for_the_rules_too(self):
        broken = [item(1, 1, 50), item(1, 3, 1), fail(0), fail(1), group(1, 8, [0, 1])]
        self.assertEqual(reply(*broken, least(0, 3)), [0, 1, 0, 1])
        self.assertEqual(reply(*broken, least(0, 4)), [0, 50, 1, 0])

    def test_rules_of_other_conditions_play_no_part(self):
        broken = [*costing(5, 7), need(0, 1, 2), need(1, 1, 3), fail(0), fail(1)]
        self.assertEqual(reply(*broken, least(2)), [0, 5, 1, 0])
        self.assertEqual(reply(*broken, least(3)), [0, 7, 0, 1])
        self.assertEqual(reply(*broken, least(4)), [0, 0, 0, 0])
        for condition in range(8):
            self.assertEqual(reply(*costing(5), need(0, 1, 8), fail(), least(condition)), [0, 5, 1])


class OfThoseAlike(unittest.TestCase):
    def test_the_fewest_of_item_0_then_of_item_1(self):
        broken = [*costing(6, 6, 6, 6), *[fail(a) for a in range(4)]]
        for k, repairs in ((4, [0, 0, 0, 0]), (3, [0, 0, 0, 1]), (2, [0, 0, 1, 1]), (1, [0, 1, 1, 1])):
            self.assertEqual(reply(*broken, group(k, 8, range(4)), least()), [0, 6 * sum(repairs)] + repairs)

    def test_the_fewest_of_item_0_though_more_repairs_in_all(self):
        broken = [*costing(2, 1, units=2), *[fail(0)] * 2, *[fail(1)] * 2]
        self.assertEqual(reply(*broken, pair(0, 1, 1, 2), least()), [0, 2, 0, 2])

    def test_the_fewest_of_item_0_though_more_of_item_1(self):
        broken = [*costing(1, 2, units=2), *[fail(0)] * 2, *[fail(1)] * 2]
        self.assertEqual(reply(*broken, pair(0, 2, 1, 1), least()), [0, 2, 0, 1])

    def test_item_1_only_where_item_0_is_alike(self):
        # 4 hours: item 0 once and item 2 once, or item 1 twice, or item 2 twice.
        broken = [*costing(2, 2, 2, units=2), *[fail(a) for a in (0, 0, 1, 1, 2, 2)]]
        self.assertEqual(reply(*broken, group(4, 8, [0, 1, 2]), least()), [0, 4, 0, 0, 2])
        self.assertEqual(reply(*broken, group(4, 8, [0, 1, 2]), need(0, 1), least()), [0, 4, 1, 0, 1])
        self.assertEqual(reply(*broken, group(4, 8, [0, 1, 2]), need(1, 1), least()), [0, 4, 0, 1, 1])

    def test_hours_come_ahead_of_the_fewest_of_item_0(self):
        broken = [*costing(1, 100, units=8), *[fail(0)] * 8, fail(1)]
        self.assertEqual(reply(*broken, pair(0, 8, 1, 8), least()), [0, 8, 8, 0])

    def test_which_rule_is_told_first_plays_no_part(self):
        rules = [pair(0, 1, 1, 1), pair(1, 1, 2, 1), pair(2, 1, 3, 1), group(2, 8, [0, 1, 2, 3])]
        broken = [*costing(3, 3, 3, 3), *[fail(a) for a in range(4)]]
        for first in range(4):
            turned = rules[first:] + rules[:first]
            self.assertEqual(reply(*broken, *turned, least()), [0, 6, 0, 1, 0, 1])


class Asking(unittest.TestCase):
    def test_nothing_is_repaired_by_asking(self):
        broken = [item(3, 1, 5), item(2, 2, 6), need(0, 3), fail(0), fail(0), extend(0), day(1), fail(1)]
        look = [state(0), state(1), TOTALS, log(0), go()]
        before = told(*broken, *look)[-5:]
        self.assertEqual(told(*broken, least(0, 1000), *look)[-5:], before)
        self.assertEqual(told(*broken, least(0, 1000), least(0, 1000))[-2:], [[0, 16, 2, 1]] * 2)

    def test_no_repair_is_kept_by_asking(self):
        broken = [item(1, 1), categories(9, 9, 9, 9, 9), fail(), day(1)]
        self.assertEqual(reply(*broken, least(0, 100), repair(), day(1), fail(), state()), [1, 0, 1, 1, 2, 0, 9])

    def test_with_these_done_it_may_go_for_so_long(self):
        broken = [item(3, 2, 5), item(2, 2, 6), need(0, 2), fail(0), fail(0), day(3), fail(0), fail(1), fail(1)]
        self.assertEqual(reply(*broken, least(0, 8)), [0, 10, 2, 0])
        self.assertEqual(reply(*broken, repair(0), repair(0), till()), [0, 13])
        self.assertEqual(reply(*broken, repair(0), repair(0), least(0, 10)), [0, 0, 0, 0])
        self.assertEqual(reply(*broken, repair(0), repair(0), day(8), go()), [1, 0, 0])
