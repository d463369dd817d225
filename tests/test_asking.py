"""What holds for all the calls that ask: with nothing there, after clear, and that they change nothing."""

import unittest

from tests.helper import (CLEAR, TOTALS, categories, day, extend, fail, go, group, hard, item, least, log, need, pair,
                          repair, rule, state, till, told, weak)

ASKED = [go(0), till(7), least(0, 1000), hard(3), weak(4), state(0), rule(0), TOTALS, log(0)]
WITH_NOTHING = [[1, 0, 0], [0, -1], [0, 0], [0, -1], [0], [-3], [-3], [0] * 6, [0]]

# Wrong ones too: a refusal must change nothing either.
ASKED_WRONG = [go(8), till(-1), least(8, 0), least(0, 1001), hard(8), weak(-1), state(9), rule(9), log(-1)]

BROKEN = [item(3, 1, 5), item(2, 2, 6), need(0, 3, 0), pair(1, 2, 0, 2), group(2, 8, [1, 0]), categories(1, 4, 9, 9, 5),
          fail(0), fail(0), extend(0), day(2), fail(1), repair(0), day(1)]
AFTERWARDS = [fail(0), fail(0), extend(1), extend(0), repair(0), day(9), fail(1), fail(1), repair(1), item(1), need(0, 1),
              item(0), extend(1), go(0), least(0, 9), TOTALS, log(0), state(0), state(1)]


class Asking(unittest.TestCase):
    def test_with_no_item_and_no_rule(self):
        self.assertEqual(told(*ASKED), WITH_NOTHING)

    def test_in_every_condition(self):
        for condition in range(8):
            given = told(go(condition), till(condition), least(condition, 0), hard(condition), weak(condition))
            self.assertEqual(given, WITH_NOTHING[:5])

    def test_after_clear(self):
        self.assertEqual(told(*BROKEN, CLEAR, *ASKED)[-len(ASKED):], WITH_NOTHING)
        self.assertEqual(told(*BROKEN, CLEAR, *BROKEN, *ASKED)[-len(ASKED):], told(*BROKEN, *ASKED)[-len(ASKED):])

    def test_with_days_passed_alone(self):
        given = told(day(1000), *ASKED)[1:]
        self.assertEqual(given, WITH_NOTHING[:7] + [[1000, 0, 0, 0, 0, 0], [0]])

    def test_what_is_asked_here(self):
        given = told(*BROKEN, *ASKED)[len(BROKEN):]
        self.assertEqual(given, [[0, 1, 0], [0, 8], [0, 11, 1, 1], [0, 1], [2, 0, 1], [3, 2, 1, 5, 2, 0, 8],
                                 [0, 0, 3, 0, 0, 0, 0], [3, 2, 3, 2, 11, 5],
                                 [15, 0, 0, 0, 0, 0, 0, 0, 0, 2, 2, 1, 0, 2, 0, 1]])

    def test_none_of_them_changes_anything(self):
        quiet = told(*BROKEN, *AFTERWARDS)
        for call in ASKED + ASKED_WRONG:
            asked = []
            for one in BROKEN + AFTERWARDS:
                asked += [one, call]
            self.assertEqual(told(*asked)[::2], quiet, call)

    def test_asked_twice_they_answer_the_same(self):
        given = told(*BROKEN, *ASKED, *ASKED)[len(BROKEN):]
        self.assertEqual(given[:len(ASKED)], given[len(ASKED):])

    def test_wrong_ones(self):
        self.assertEqual(told(*BROKEN, *ASKED_WRONG)[len(BROKEN):], [[-1]] * 6 + [[-3]] * 2 + [[-1]])
