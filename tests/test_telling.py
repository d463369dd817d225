"""Promises 0, 1, 5 and 6: clear, item, categories, day."""

import unittest

from tests.helper import CLEAR, categories, day, extend, fail, firsts, group, item, last, need, pair, repair


class Clear(unittest.TestCase):
    def test_answers_nought(self):
        self.assertEqual(firsts(CLEAR, CLEAR), [0, 0])

    def test_all_is_as_before_the_first_call(self):
        after = [
            fail(0), repair(0), extend(0), need(0), group(0, 0, []), item(3, 0, 1), item(3, 1, 1),
            item(3, 2, 1), item(3, 3, 1), day(4), fail(0), fail(1), fail(2), fail(3),
            extend(0), extend(1), extend(2), extend(3), repair(0), day(1), fail(0), repair(0), need(0),
        ]
        before = [
            item(8, 3, 9), item(2, 2, 9), need(0, 8), pair(0, 1, 1, 1), group(3, 3, [0]),
            categories(7, 8, 9, 10, 11), day(50), fail(0), fail(1), extend(0), repair(0),
        ]
        self.assertEqual(firsts(*before, CLEAR, *after)[len(before) + 1:], firsts(*after))

    def test_full_items_and_rules_are_gone(self):
        full = [item()] * 10 + [need(0)] * 40
        self.assertEqual(firsts(*full, CLEAR, *full)[51:], firsts(*full))

    def test_repairs_are_gone(self):
        lasting = categories(9, 9, 9, 9, 1000)
        kept = [item(), lasting, day(3), fail(), repair(), day(2), fail(), repair()]
        self.assertEqual(last(*kept), 3)
        self.assertEqual(last(*kept[:5], CLEAR, item(), lasting, day(2), fail(), repair()), 2)


class Items(unittest.TestCase):
    def test_numbered_in_the_order_told(self):
        self.assertEqual(firsts(item(1, 0, 1), item(8, 3, 100), item(1, 0, 1)), [0, 1, 2])

    def test_ten_and_one_more(self):
        given = firsts(*[item(2)] * 11, fail(9), fail(10), item())
        self.assertEqual(given, list(range(10)) + [-2, 1, -3, -2])

    def test_out_of_range_ahead_of_full(self):
        self.assertEqual(firsts(*[item()] * 10, item(0), item(1, 4), item(1, 0, 101))[10:], [-1, -1, -1])

    def test_all_units_work_at_first(self):
        for units in range(1, 9):
            given = firsts(item(units), repair(0), *[fail(0)] * (units + 1))
            self.assertEqual(given, [0, -5] + list(range(units - 1, -1, -1)) + [-4])

    def test_a_refused_item_is_not_there(self):
        self.assertEqual(firsts(item(9), fail(0), item(2), fail(0)), [-1, -3, 0, 1])

    def test_items_are_apart(self):
        given = firsts(item(2), item(3), fail(0), fail(1), fail(1), repair(0), repair(0), repair(1), fail(1))
        self.assertEqual(given[2:], [1, 2, 1, 0, -5, 0, 1])


class Categories(unittest.TestCase):
    def test_the_days_at_first(self):
        for category, days in enumerate((0, 3, 10, 120)):
            self.assertEqual(last(item(1, category), day(7), fail(), extend()), 7 + 2 * days)

    def test_each_number_is_of_its_category(self):
        for category, days in enumerate((11, 22, 33, 44)):
            self.assertEqual(last(item(1, category), categories(11, 22, 33, 44, 55), fail(), extend()), 2 * days)

    def test_answers_nought(self):
        self.assertEqual(last(categories(1000, 1000, 1000, 1000, 1000)), 0)

    def test_they_hold_for_units_broken_before_too(self):
        self.assertEqual(last(item(1, 1), fail(), categories(0, 50, 0, 0, 0), day(50), extend()), 100)
        self.assertEqual(last(item(1, 1), fail(), day(1), categories(0, 0, 0, 0, 0), extend()), -6)

    def test_the_last_told_hold(self):
        told_twice = [categories(1, 1, 1, 1, 1), categories(2, 2, 2, 2, 2)]
        self.assertEqual(last(item(), *told_twice, fail(), extend()), 4)

    def test_a_refusal_changes_none_of_the_five(self):
        for place in range(5):
            wrong = [500, 500, 500, 500, 500]
            wrong[place] = 1001
            for category, days in enumerate((0, 3, 10, 120)):
                given = firsts(item(1, category), categories(*wrong), day(2), fail(), extend(), repair(), day(1),
                               fail(), repair())
                self.assertEqual(given, [0, -1, 2, 0, 2 + 2 * days, 2, 3, 0, 3])


class Day(unittest.TestCase):
    def test_today_is_nought_at_first_and_then_n_later(self):
        self.assertEqual(firsts(day(1), day(1000), day(2)), [1, 1001, 1003])

    def test_the_day_is_the_one_on_which_units_are_found(self):
        given = firsts(item(3), fail(), day(5), fail(), day(6), fail(), repair(), repair(), repair())
        self.assertEqual(given[-3:], [0, 5, 11])

    def test_a_refusal_changes_nothing(self):
        self.assertEqual(firsts(day(3), day(0), day(-1), day(1001), day(1)), [3, -1, -1, -1, 4])
