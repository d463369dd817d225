"""Promises 7, 8 and 9: fail, repair, extend."""

import unittest

from tests.helper import HIGHEST, LOWEST, categories, day, extend, fail, firsts, item, last, repair

NOT_THERE = (-1, -2, 2, 3, 9, 10, LOWEST, HIGHEST)


class AllThree(unittest.TestCase):
    def test_no_such_item(self):
        for a in NOT_THERE:
            given = firsts(item(2), item(2), fail(0), fail(1), fail(a), repair(a), extend(a))
            self.assertEqual(given[4:], [-3] * 3)
        for call in (fail(0), repair(0), extend(0)):
            self.assertEqual(last(call), -3)

    def test_no_such_item_ahead_of_the_others(self):
        for a in NOT_THERE:
            self.assertEqual(firsts(item(), item(), repair(a), extend(a))[2:], [-3, -3])
            self.assertEqual(firsts(item(), item(), fail(0), fail(1), fail(a))[4:], [-3])


class Fail(unittest.TestCase):
    def test_how_many_work_then(self):
        self.assertEqual(firsts(item(3), fail(), fail(), repair(), fail(), fail()), [0, 2, 1, 0, 1, 0])

    def test_all_units_broken(self):
        self.assertEqual(firsts(item(2), fail(), fail(), fail(), fail(), repair(), fail())[3:], [-4, -4, 0, 0])

    def test_a_refusal_takes_no_repair_back(self):
        given = firsts(item(1), categories(9, 9, 9, 9, 9), fail(), repair(), day(3), fail(), fail(), day(1),
                       repair(), fail(), repair())
        self.assertEqual(given[5:], [0, -4, 4, 0, 0, 0])
        # Two repairs, of which the failure takes one back; the refused one must leave the other.
        given = firsts(item(1), categories(9, 9, 9, 9, 1), day(1), fail(), repair(), day(1), fail(), repair(),
                       categories(9, 9, 9, 9, 9), fail(), fail(), categories(9, 9, 9, 9, 0), repair(),
                       categories(9, 9, 9, 9, 9), fail(), repair(), fail(), repair())
        self.assertEqual(given[9:], [0, -4, 0, 2, 0, 0, 2, 0, 2])

    def test_found_today_where_nothing_was_repaired(self):
        self.assertEqual(last(item(1), categories(9, 9, 9, 9, 1000), day(7), fail(), repair()), 7)

    def test_lasting_nought_takes_nothing_back(self):
        self.assertEqual(last(item(1), day(2), fail(), repair(), fail(), repair()), 2)
        given = firsts(item(1), day(2), fail(), day(3), repair(), fail(), repair())
        self.assertEqual(given[-3:], [2, 0, 5])

    def test_lasting_one_takes_back_on_the_same_day_alone(self):
        broken = [item(1), categories(9, 9, 9, 9, 1), day(2), fail(), day(3), repair()]
        self.assertEqual(last(*broken, fail(), repair()), 2)
        self.assertEqual(last(*broken, day(1), fail(), repair()), 6)

    def test_fewer_than_lasting_days_and_just_lasting_days(self):
        for lasting in (2, 5, 1000):
            broken = [item(1), categories(9, 9, 9, 9, lasting), day(2), fail(), day(3), repair()]
            self.assertEqual(last(*broken, day(lasting - 1), fail(), repair()), 2)
            self.assertEqual(last(*broken, day(lasting), fail(), repair()), 5 + lasting)

    def test_days_are_counted_from_the_repair_and_not_from_the_failure(self):
        broken = [item(1), categories(9, 9, 9, 9, 4), day(2), fail(), day(900), repair(), day(3), fail()]
        self.assertEqual(last(*broken, repair()), 2)

    def test_of_several_repairs_the_newest(self):
        broken = [item(2), categories(9, 9, 9, 9, 100), fail(), day(1), fail(), day(1), repair(), day(1), repair(),
                  day(1)]
        self.assertEqual(firsts(*broken, fail(), repair())[-2:], [1, 1])
        self.assertEqual(firsts(*broken, fail(), fail(), repair(), repair())[-4:], [1, 0, 0, 1])

    def test_of_several_on_one_day_the_one_made_last(self):
        broken = [item(3), categories(9, 9, 9, 9, 1), fail(), day(1), fail(), day(1), fail(), repair(), repair(),
                  repair()]
        self.assertEqual(firsts(*broken)[-3:], [0, 1, 2])
        self.assertEqual(last(*broken, fail(), repair()), 2)
        self.assertEqual(last(*broken, fail(), fail(), repair()), 1)
        self.assertEqual(last(*broken, fail(), fail(), fail(), repair()), 0)

    def test_of_several_on_one_day_an_extended_one_made_last(self):
        broken = [item(2), categories(9, 9, 9, 9, 1), fail(), fail(), extend(), repair(), repair(), fail()]
        self.assertEqual(firsts(*broken, extend())[-1], -6)
        self.assertEqual(firsts(*broken, fail(), extend(), extend())[-2:], [18, -6])

    def test_repaired_again_it_counts_from_the_new_repair(self):
        broken = [item(1), categories(9, 9, 9, 9, 3), day(1), fail(), repair(), day(2), fail(), repair(), day(2)]
        self.assertEqual(last(*broken, fail(), repair()), 1)
        self.assertEqual(last(*broken, day(1), fail(), repair()), 6)

    def test_a_repair_too_long_ago_stays_out_though_a_newer_one_is_taken_back(self):
        broken = [item(2), categories(9, 9, 9, 9, 3), fail(), day(1), fail(), repair(), day(3), repair()]
        self.assertEqual(firsts(*broken)[-3:], [0, 4, 1])
        given = firsts(*broken, fail(), fail(), repair(), repair())
        self.assertEqual(given[-4:], [1, 0, 1, 4])

    def test_a_repair_taken_back_is_not_there_any_more(self):
        broken = [item(2), categories(9, 9, 9, 9, 100), fail(), day(3), repair(), day(1), fail()]
        self.assertEqual(firsts(*broken, fail(), repair(), repair())[-3:], [0, 0, 4])

    def test_repairs_of_other_items_play_no_part(self):
        given = firsts(item(1), item(1), categories(9, 9, 9, 9, 100), fail(0), day(3), repair(0), fail(1), repair(1),
                       fail(0), repair(0))
        self.assertEqual(given[-4:], [0, 3, 0, 0])

    def test_comes_back_extended_if_it_was_extended_then(self):
        broken = [item(1), categories(9, 9, 9, 9, 100), fail(), extend(), repair(), fail()]
        self.assertEqual(last(*broken, extend()), -6)
        self.assertEqual(last(*broken[:3], repair(), fail(), extend()), 18)

    def test_comes_back_at_its_place_in_the_order(self):
        # Found on day 0 and extended, found on day 0 and not, found on day 1.
        broken = [item(3), categories(9, 9, 9, 9, 100), fail(), fail(), day(1), fail(), extend(), repair(), repair()]
        self.assertEqual(firsts(*broken)[-2:], [0, 0])
        given = firsts(*broken, fail(), extend(), fail(), extend(), extend(), repair(), repair(), repair())
        self.assertEqual(given[-8:], [1, 19, 0, 18, -6, 0, 0, 1])

    def test_found_today_is_not_extended(self):
        self.assertEqual(last(item(1, 1), fail(), extend(), repair(), fail(), extend()), 6)

    def test_the_lasting_that_holds_is_the_one_of_the_failure(self):
        broken = [item(1), fail(), day(3), repair(), day(2)]
        for lasting, found in ((0, 5), (1, 5), (2, 5), (3, 0), (1000, 0)):
            for before in (0, 1000):
                given = last(categories(9, 9, 9, 9, before), *broken, categories(9, 9, 9, 9, lasting), fail(),
                             repair())
                self.assertEqual(given, found)

    def test_a_repair_that_once_lasted_can_still_be_taken_back_when_lasting_grows(self):
        broken = [item(2), categories(9, 9, 9, 9, 1), fail(), day(3), repair(), day(5), fail(),
                  categories(9, 9, 9, 9, 6), fail(), repair(), repair()]
        self.assertEqual(firsts(*broken)[-4:], [0, 0, 0, 8])

    def test_the_days_of_the_category_play_no_part(self):
        given = firsts(item(1, 1), categories(0, 1, 0, 0, 1000), fail(), day(500), repair(), day(1), fail(), repair())
        self.assertEqual(given[-2:], [0, 0])


class Repair(unittest.TestCase):
    def test_none_broken(self):
        self.assertEqual(firsts(item(2), repair(), fail(), repair(), repair()), [0, -5, 1, 0, -5])

    def test_a_refusal_keeps_no_repair(self):
        given = firsts(categories(9, 9, 9, 9, 100), item(1), repair(), day(5), fail(), repair())
        self.assertEqual(given[-1], 5)

    def test_the_oldest_first(self):
        given = firsts(item(3), day(1), fail(), day(1), fail(), day(1), fail(), repair(), repair(), repair())
        self.assertEqual(given[-3:], [1, 2, 3])

    def test_a_unit_that_came_back_is_the_oldest_by_its_old_day(self):
        given = firsts(item(2), categories(9, 9, 9, 9, 10), day(1), fail(), repair(), categories(9, 9, 9, 9, 0),
                       day(1), fail(), categories(9, 9, 9, 9, 10), fail(), repair(), repair())
        self.assertEqual(given[-2:], [1, 2])

    def test_the_oldest_first_though_it_was_extended(self):
        given = firsts(item(2, 2), fail(), day(1), extend(), fail(), repair(), extend())
        self.assertEqual(given[-3:], [0, 0, 21])

    def test_the_oldest_first_though_its_last_day_is_later(self):
        given = firsts(item(2, 2), day(1), fail(), extend(), day(1), fail(), repair(), repair())
        self.assertEqual(given[-2:], [1, 2])

    def test_on_the_same_day_those_not_extended_first(self):
        # If the extended one had been repaired, the other could still be extended.
        given = firsts(item(2, 2), fail(), fail(), extend(), repair(), extend(), repair())
        self.assertEqual(given[-3:], [0, -6, 0])
        given = firsts(item(3, 2), fail(), fail(), fail(), extend(), extend(), repair(), extend())
        self.assertEqual(given[-2:], [0, -6])

    def test_units_left_too_long_are_repaired_too(self):
        self.assertEqual(last(item(1), fail(), day(1000), repair()), 0)


class Extend(unittest.TestCase):
    def test_no_broken_unit(self):
        self.assertEqual(firsts(item(1, 3), extend(), fail(), repair(), extend()), [0, -6, 0, 0, -6])

    def test_twice_the_days_from_the_day_it_was_found(self):
        self.assertEqual(last(item(1, 2), day(5), fail(), day(4), extend()), 25)

    def test_only_once(self):
        self.assertEqual(firsts(item(1, 3), fail(), extend(), extend())[2:], [240, -6])

    def test_last_day_today_and_yesterday(self):
        for category, days in ((1, 3), (2, 10), (3, 120)):
            broken = [item(1, category), day(4), fail()]
            self.assertEqual(last(*broken, day(days - 1), extend()), 4 + 2 * days)
            self.assertEqual(last(*broken, day(days), extend()), 4 + 2 * days)
            self.assertEqual(last(*broken, day(days + 1), extend()), -6)

    def test_days_of_nought(self):
        self.assertEqual(last(item(1, 0), day(4), fail(), extend()), 4)
        self.assertEqual(last(item(1, 0), day(4), fail(), day(1), extend()), -6)
        self.assertEqual(firsts(item(1, 0), day(4), fail(), extend(), extend())[-1], -6)

    def test_the_oldest_of_these(self):
        broken = [item(4, 1), fail(), day(2), fail(), day(1), fail(), day(1), fail()]
        # On day 4 the one found on day 0 is left too long; those of days 2, 3 and 4 are not.
        self.assertEqual(firsts(*broken, *[extend()] * 4)[-4:], [8, 9, 10, -6])
        self.assertEqual(firsts(*broken, *[repair()] * 4)[-4:], [0, 2, 3, 4])

    def test_of_those_found_on_the_same_day_each_once(self):
        self.assertEqual(firsts(item(3, 1), fail(), fail(), day(1), fail(), *[extend()] * 4)[-4:], [6, 6, 7, -6])

    def test_the_days_as_they_are_then(self):
        self.assertEqual(last(item(1, 1), categories(0, 7, 0, 0, 0), fail(), extend()), 14)
        self.assertEqual(last(item(1, 1), fail(), categories(0, 7, 0, 0, 0), day(7), extend()), 14)
        self.assertEqual(last(item(1, 1), fail(), day(7), categories(0, 7, 0, 0, 0), extend()), 14)
        self.assertEqual(last(item(1, 3), fail(), day(8), categories(0, 0, 0, 7, 0), extend()), -6)

    def test_left_too_long_is_asked_by_the_days_before_extending(self):
        # Extended, its last day would be day 6; not extended it was day 3.
        self.assertEqual(last(item(1, 1), fail(), day(4), extend()), -6)

    def test_a_refusal_changes_nothing(self):
        given = firsts(item(1, 1), fail(), day(4), extend(), categories(0, 4, 0, 0, 0), extend())
        self.assertEqual(given[-3:], [-6, 0, 8])

    def test_the_unit_stays_broken(self):
        self.assertEqual(firsts(item(2, 1), fail(), extend(), fail(), fail())[-2:], [0, -4])

    def test_a_repaired_unit_leaves_no_extension_behind(self):
        given = firsts(item(1, 1), fail(), extend(), repair(), day(1), fail(), extend())
        self.assertEqual(given[-2:], [0, 7])
