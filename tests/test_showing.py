"""Promises 15 and 16, and totals: state, rule, totals, log."""

import unittest

from tests.helper import (CLEAR, HIGHEST, LOWEST, TOTALS, categories, day, extend, fail, group, item, log, need, pair,
                          repair, reply, rule, state, told)


class Items(unittest.TestCase):
    def test_all_working(self):
        for units, category, hours in ((1, 0, 1), (8, 3, 100), (3, 2, 50)):
            self.assertEqual(reply(item(units, category, hours), state()), [units, units, category, hours, 0])

    def test_each_item_by_its_number(self):
        given = told(item(8, 3, 100), item(1, 0, 1), fail(1), state(0), state(1))
        self.assertEqual(given[-2:], [[8, 8, 3, 100, 0], [1, 0, 0, 1, 2, 0, 0]])

    def test_no_such_item(self):
        for a in (-1, -2, 2, 3, 10, LOWEST, HIGHEST):
            self.assertEqual(reply(item(), item(), state(a)), [-3])
        self.assertEqual(reply(state(0)), [-3])
        self.assertEqual(reply(item(), CLEAR, state(0)), [-3])
        self.assertEqual(reply(item(9), state(0)), [-3])

    def test_two_numbers_for_each_broken_unit_the_oldest_first(self):
        broken = [item(4, 2, 9), day(3), fail(), day(4), fail(), day(1), fail()]
        self.assertEqual(reply(*broken, state()), [4, 1, 2, 9, 6, 3, 13, 7, 17, 8, 18])
        self.assertEqual(reply(*broken, repair(), state()), [4, 2, 2, 9, 4, 7, 17, 8, 18])

    def test_all_broken(self):
        self.assertEqual(reply(item(8, 1, 2), *[fail()] * 9, state()), [8, 0, 1, 2, 16] + [0, 3] * 8)

    def test_extended_units(self):
        broken = [item(3, 2, 9), day(3), fail(), extend(), day(4), fail()]
        self.assertEqual(reply(*broken, state()), [3, 1, 2, 9, 4, 3, 23, 7, 17])
        self.assertEqual(reply(*broken, extend(), state()), [3, 1, 2, 9, 4, 3, 23, 7, 27])

    def test_on_the_same_day_those_not_extended_first(self):
        broken = [item(3, 2, 9), fail(), fail(), fail(), extend()]
        self.assertEqual(reply(*broken, state()), [3, 0, 2, 9, 6, 0, 10, 0, 10, 0, 20])
        self.assertEqual(reply(*broken, repair(), state()), [3, 1, 2, 9, 4, 0, 10, 0, 20])

    def test_the_last_day_as_the_days_of_the_categories_are_then(self):
        broken = [item(2, 1, 9), fail(), extend(), day(2), fail()]
        given = told(*broken, state(), categories(0, 50, 0, 0), state(), categories(7, 0, 7, 7), state())
        self.assertEqual([given[5], given[7], given[9]], [[2, 0, 1, 9, 4, 0, 6, 2, 5], [2, 0, 1, 9, 4, 0, 100, 2, 52],
                                                          [2, 0, 1, 9, 4, 0, 0, 2, 2]])

    def test_the_days_of_each_category(self):
        for category, days in enumerate((0, 3, 10, 120)):
            self.assertEqual(reply(item(1, category), day(1), fail(), state())[-2:], [1, 1 + days])
            self.assertEqual(reply(item(1, category), day(1), fail(), extend(), state())[-2:], [1, 1 + 2 * days])

    def test_units_left_too_long_are_shown_as_the_others(self):
        self.assertEqual(reply(item(2, 1), fail(), day(900), fail(), state()), [2, 0, 1, 1, 4, 0, 3, 900, 903])

    def test_a_unit_that_came_back(self):
        broken = [item(2, 2), categories(0, 3, 10, 120, 5), fail(), extend(), day(4), repair(), day(4)]
        self.assertEqual(reply(*broken, fail(), state()), [2, 1, 2, 1, 2, 0, 20])
        self.assertEqual(reply(*broken, fail(), fail(), state()), [2, 0, 2, 1, 4, 0, 20, 8, 18])
        self.assertEqual(reply(*broken, day(1), fail(), state()), [2, 1, 2, 1, 2, 9, 19])

    def test_of_several_repairs_on_one_day_the_one_made_last_comes_back(self):
        broken = [item(2, 2), categories(0, 3, 10, 120, 5), fail(), fail(), extend(), repair(), repair(), fail()]
        self.assertEqual(reply(*broken, state()), [2, 1, 2, 1, 2, 0, 20])
        self.assertEqual(reply(*broken, fail(), state()), [2, 0, 2, 1, 4, 0, 10, 0, 20])


class Rules(unittest.TestCase):
    def test_each_kind(self):
        told_before = [item(4), item(5), need(1, 3, 7), pair(1, 5, 0, 4, 8), group(80, 2, [1, 0])]
        self.assertEqual(reply(*told_before, rule(0)), [0, 1, 3, 0, 0, 7, 0])
        self.assertEqual(reply(*told_before, rule(1)), [1, 1, 5, 0, 4, 8, 0])
        self.assertEqual(reply(*told_before, rule(2)), [2, 0, 80, 0, 0, 2, 2, 1, 0])

    def test_every_number_in_its_place(self):
        told_before = [*[item(8)] * 10, pair(2, 3, 4, 5, 6), need(7, 8, 1), group(9, 3, [8])]
        self.assertEqual(reply(*told_before, rule(0)), [1, 2, 3, 4, 5, 6, 0])
        self.assertEqual(reply(*told_before, rule(1)), [0, 7, 8, 0, 0, 1, 0])
        self.assertEqual(reply(*told_before, rule(2)), [2, 0, 9, 0, 0, 3, 1, 8])

    def test_the_list_as_it_was_told(self):
        for listed in ([], [0], [9, 0], [3, 1, 2], list(range(9, -1, -1)), list(range(10))):
            given = reply(*[item()] * 10, group(4, 5, listed), rule(0))
            self.assertEqual(given, [2, 0, 4, 0, 0, 5, len(listed)] + listed)

    def test_the_empty_list_without_items(self):
        self.assertEqual(reply(group(0, 0, []), rule(0)), [2, 0, 0, 0, 0, 0, 0])

    def test_each_condition(self):
        for condition in range(9):
            given = told(item(1), item(1), need(0, 1, condition), pair(0, 1, 1, 1, condition), group(1, condition, [0]),
                         rule(0), rule(1), rule(2))
            self.assertEqual([part[5] for part in given[5:]], [condition] * 3)

    def test_no_such_rule(self):
        for number in (-1, -2, 2, 3, 39, 40, LOWEST, HIGHEST):
            self.assertEqual(reply(item(), need(0), need(0), rule(number)), [-3])
        self.assertEqual(reply(item(), item(), rule(0)), [-3])
        self.assertEqual(reply(item(), need(0), CLEAR, rule(0)), [-3])
        self.assertEqual(reply(item(), need(0, 2), rule(0)), [-3])

    def test_the_last_of_forty(self):
        forty = [need(0, 0, number % 9) for number in range(40)]
        self.assertEqual(reply(item(), *forty, need(0), rule(39)), [0, 0, 0, 0, 0, 39 % 9, 0])
        self.assertEqual(reply(item(), *forty, need(0), rule(40)), [-3])

    def test_failures_change_no_rule(self):
        told_before = [item(2), need(0, 2, 3), fail(), fail(), repair(), day(4), categories(1, 2, 3, 4, 5)]
        self.assertEqual(reply(*told_before, rule(0)), [0, 0, 2, 0, 0, 3, 0])


class Totals(unittest.TestCase):
    def test_at_first(self):
        self.assertEqual(reply(TOTALS), [0] * 6)

    def test_each_number(self):
        calls = [day(5), item(3, 2, 7), item(2, 1, 50), need(0, 1), group(0, 0, []), fail(0), fail(0), fail(1), extend(1),
                 day(2), repair(0), categories(1, 2, 3, 4, 5), item(1, 1, 100), pair(0, 1, 1, 1), repair(1), fail(2)]
        expected = [
            [5, 0, 0, 0, 0, 0], [5, 1, 0, 0, 0, 0], [5, 2, 0, 0, 0, 0], [5, 2, 1, 0, 0, 0], [5, 2, 2, 0, 0, 0],
            [5, 2, 2, 1, 7, 1], [5, 2, 2, 2, 14, 2], [5, 2, 2, 3, 64, 3], [5, 2, 2, 3, 64, 4],
            [7, 2, 2, 3, 64, 4], [7, 2, 2, 2, 57, 5], [7, 2, 2, 2, 57, 5], [7, 3, 2, 2, 57, 5], [7, 3, 3, 2, 57, 5],
            [7, 3, 3, 1, 7, 6], [7, 3, 3, 2, 107, 7],
        ]
        for place in range(len(calls)):
            self.assertEqual(reply(*calls[:place + 1], TOTALS), expected[place])
        self.assertEqual(reply(*calls, CLEAR, TOTALS), [0] * 6)
        self.assertEqual(reply(*calls, CLEAR, item(), TOTALS), [0, 1, 0, 0, 0, 0])

    def test_refused_calls_change_none(self):
        told_before = [item(1, 0, 9), need(0, 1), day(3), fail()]
        refused = [item(0), need(1), need(0, 2), pair(0, 0, 0, 0), group(81, 0, []), day(0), fail(0), fail(1), repair(1),
                   categories(-1), state(1), rule(1), log(-1)]
        given = told(*told_before, *refused, TOTALS)
        self.assertTrue(all(len(part) == 1 and part[0] < 0 for part in given[4:-1]))
        self.assertEqual(given[-1], [3, 1, 1, 1, 9, 1])

    def test_all_full(self):
        given = reply(*[item(8, 0, 100)] * 10, *[need(0)] * 40, day(1000), *[fail(a) for a in range(10)] * 8, TOTALS)
        self.assertEqual(given, [1000, 10, 40, 80, 8000, 80])


class Log(unittest.TestCase):
    def test_no_events(self):
        for k in (0, 1, 50, 100000):
            self.assertEqual(reply(log(k)), [0])

    def test_the_three_kinds_with_their_day_and_item(self):
        told_before = [item(2, 2), item(2, 2), fail(1), day(2), extend(1), fail(0), day(3), repair(1), repair(0)]
        events = [0, 1, 0, 2, 1, 2, 2, 0, 0, 5, 1, 1, 5, 0, 1]
        for k in range(8):
            self.assertEqual(reply(*told_before, log(k)), [len(events[3 * k:])] + events[3 * k:])
        self.assertEqual(reply(*told_before, log(100000)), [0])

    def test_fifty_events_and_more(self):
        for size in (49, 50, 51, 99, 100, 101):
            told_before = [item(8, 1), *[fail(), day(1), repair()] * (size // 2), *[fail()] * (size % 2)]
            events = []
            for number in range(size):
                events.append([(number + 1) // 2, 0, number % 2])
            for k in (0, 1, 2, size - 51, size - 50, size - 49, size - 1, size, size + 1):
                if k >= 0:
                    shown = [number for event in events[k:][:50] for number in event]
                    self.assertEqual(reply(*told_before, log(k)), [len(shown)] + shown)

    def test_refused_calls_leave_no_event(self):
        refused = [fail(1), repair(1), extend(1), repair(0), extend(0), fail(-1), item(9), day(0)]
        self.assertEqual(reply(item(1, 1), *refused, log()), [0])
        self.assertEqual(reply(item(1, 1), fail(), fail(), extend(), extend(), repair(), repair(), log()),
                         [9, 0, 0, 0, 0, 0, 2, 0, 0, 1])

    def test_other_calls_leave_no_event(self):
        others = [item(), need(0), group(0, 0, []), categories(), day(), state(), rule(), TOTALS, log()]
        self.assertEqual(reply(*others, log()), [0])

    def test_a_failure_that_takes_a_repair_back_is_an_event_too(self):
        told_before = [item(1), categories(9, 9, 9, 9, 9), fail(), repair(), day(1), fail()]
        self.assertEqual(reply(*told_before, log()), [9, 0, 0, 0, 0, 0, 1, 1, 0, 0])

    def test_clear_leaves_none(self):
        self.assertEqual(reply(item(1), fail(), CLEAR, log()), [0])
        self.assertEqual(reply(item(1), fail(), CLEAR, item(1), day(2), fail(), log()), [3, 2, 0, 0])
