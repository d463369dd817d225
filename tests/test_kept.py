"""What is kept for the calls that ask, beside what the answers show."""

import unittest

from maygo.desk import answer_calls
from maygo.state import State
from tests.helper import CLEAR, categories, day, extend, fail, flat, group, item, need, pair, repair


def kept(*calls):
    state = State()
    answer_calls(state, flat(calls))
    return state


def all_of(rule):
    return (rule.kind, rule.a, rule.x, rule.b, rule.y, rule.condition, list(rule.listed))


class Kept(unittest.TestCase):
    def test_items(self):
        items = kept(item(8, 3, 100), item(1, 0, 1)).equipment
        self.assertEqual([(one.units, one.category, one.hours) for one in items], [(8, 3, 100), (1, 0, 1)])

    def test_rules(self):
        rules = kept(item(4), item(5), need(1, 3, 7), pair(1, 5, 0, 4, 8), group(80, 2, [1, 0]), group(0, 0, [])).rules
        self.assertEqual([all_of(rule) for rule in rules], [
            (0, 1, 3, 0, 0, 7, []), (1, 1, 5, 0, 4, 8, []), (2, 0, 80, 0, 0, 2, [1, 0]), (2, 0, 0, 0, 0, 0, []),
        ])

    def test_events_in_their_order_and_none_of_a_refusal(self):
        state = kept(item(1, 1), item(1, 1), fail(1), fail(1), fail(2), day(2), extend(1), extend(1), fail(0),
                     repair(1), repair(1), day(1), extend(1))
        self.assertEqual(state.events, [(0, 1, 0), (2, 1, 2), (2, 0, 0), (2, 1, 1)])

    def test_a_failure_that_takes_a_repair_back_is_an_event_too(self):
        state = kept(item(1), categories(9, 9, 9, 9, 9), fail(), repair(), day(1), fail())
        self.assertEqual(state.events, [(0, 0, 0), (0, 0, 1), (1, 0, 0)])
        self.assertEqual(state.equipment[0].repairs, [])

    def test_repairs(self):
        state = kept(item(2, 2), fail(), extend(), day(1), fail(), repair(), day(1), repair())
        self.assertEqual(state.equipment[0].repairs, [(0, 1, 1), (1, 0, 2)])

    def test_clear_keeps_nothing(self):
        state = kept(item(), need(0), fail(), day(3), categories(1, 2, 3, 4, 5), CLEAR)
        self.assertEqual((state.equipment, state.rules, state.events), ([], [], []))
        self.assertEqual((list(state.days), state.lasting, state.today), ([0, 3, 10, 120], 0, 0))
