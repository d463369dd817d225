"""The interface: one flat list in, one flat list out, nothing kept or changed."""

import contextlib
import io
import unittest

from maygo.desk import answers
from tests.helper import (CLEAR, TOTALS, categories, day, extend, fail, flat, go, group, hard, item, least, log, need,
                          pair, repair, rule, state, till, weak)

ALL_CALLS = [
    item(8, 1, 100), item(2, 3, 7), CLEAR, item(3, 1, 5), item(2, 2, 6),
    need(0, 2, 8), pair(0, 1, 1, 2, 0), group(1, 7, [1, 0]), group(0, 0, []),
    categories(1, 2, 3, 4, 5), day(2), fail(0), fail(0), extend(0), repair(0),
    fail(5), item(0, 0, 1), repair(1),
    go(0), till(0), least(0, 9), hard(0), weak(0), state(0), rule(2), TOTALS, log(1),
    go(8), till(1), state(2), rule(4), day(1), fail(0), repair(0),
]
ALL_ANSWERS = [
    1, 0, 1, 1, 1, 0, 1, 0, 1, 1,
    1, 0, 1, 1, 1, 2, 1, 3,
    1, 0, 1, 2, 1, 2, 1, 1, 1, 6, 1, 2,
    1, -3, 1, -1, 1, -5,
    3, 1, 0, 0, 2, 0, 6, 4, 0, 5, 1, 0, 2, 0, 1, 2, 1, 0, 7, 3, 2, 1, 5, 2, 2, 6, 9, 2, 0, 1, 0, 0, 7, 2, 1, 0,
    6, 2, 2, 4, 1, 5, 4, 10, 9, 2, 0, 0, 2, 0, 2, 2, 0, 1,
    1, -1, 2, 0, 6, 1, -3, 1, -3, 1, 3, 1, 1, 1, 2,
]


class Flat(unittest.TestCase):
    def test_each_call_in_its_flat_form(self):
        self.assertEqual(answers([0]), [1, 0])
        self.assertEqual(answers([1, 2, 1, 5]), [1, 0])
        self.assertEqual(answers([1, 2, 1, 5, 2, 0, 1, 8]), [1, 0, 1, 0])
        self.assertEqual(answers([1, 2, 1, 5, 1, 1, 0, 1, 3, 0, 1, 1, 1, 8]), [1, 0, 1, 1, 1, 0])
        self.assertEqual(answers([1, 2, 1, 5, 4, 1, 0, 1, 0]), [1, 0, 1, 0])
        self.assertEqual(answers([4, 1, 0, 0]), [1, 0])
        self.assertEqual(answers([5, 1, 2, 3, 4, 5]), [1, 0])
        self.assertEqual(answers([6, 9]), [1, 9])
        self.assertEqual(answers([1, 2, 1, 5, 7, 0]), [1, 0, 1, 1])
        self.assertEqual(answers([1, 2, 1, 5, 6, 4, 7, 0, 8, 0]), [1, 0, 1, 4, 1, 1, 1, 4])
        self.assertEqual(answers([1, 2, 1, 5, 6, 4, 7, 0, 9, 0]), [1, 0, 1, 4, 1, 1, 1, 10])

    def test_each_asking_call_in_its_flat_form(self):
        told_before = [1, 2, 1, 5, 2, 0, 1, 8, 7, 0]
        given_before = [1, 0, 1, 0, 1, 1]
        for call, given in (([10, 0], [3, 1, 0, 0]), ([11, 0], [2, 0, 3]), ([12, 0, 4], [3, 0, 5, 1]),
                            ([13, 0], [2, 0, 1]), ([14, 0], [2, 1, 0]), ([15, 0], [7, 2, 1, 1, 5, 2, 0, 3]),
                            ([16, 0], [7, 0, 0, 1, 0, 0, 8, 0]), ([17], [6, 0, 1, 1, 1, 5, 1]),
                            ([18, 0], [4, 3, 0, 0, 0])):
            self.assertEqual(answers(told_before + call), given_before + given)
            self.assertEqual(answers(told_before + call + [6, 9]), given_before + given + [1, 9])

    def test_calls_one_behind_another(self):
        self.assertEqual(answers(flat(ALL_CALLS)), ALL_ANSWERS)

    def test_a_refusal_is_one_number_alone(self):
        self.assertEqual(answers([7, 0]), [1, -3])
        self.assertEqual(answers([1, 0, 0, 0]), [1, -1])

    def test_what_stands_behind_a_group_is_read_from_its_right_place(self):
        for listed in ([], [0], [1, 0], [0] * 10, [0] * 11, list(range(20))):
            given = answers(flat([item(), item(), group(0, 0, listed), day(7)]))
            self.assertEqual(given[-2:], [1, 7])
            self.assertEqual(len(given), 8)

    def test_four_hundred_calls(self):
        self.assertEqual(answers(flat([day(1000)] * 400))[-1], 400000)
        long_row = group(0, 0, range(20))
        self.assertEqual(answers(flat([long_row] * 400)), [1, -1] * 400)

    def test_what_is_handed_in_is_not_changed(self):
        calls = flat(ALL_CALLS)
        before = list(calls)
        answers(calls)
        self.assertEqual(calls, before)

    def test_what_is_handed_in_is_not_changed_for_a_while_either(self):
        class Unchanging(list):
            def refuse(self, *args):
                raise AssertionError("the list handed in was changed")
            append = extend = insert = pop = remove = clear = sort = reverse = refuse
            __setitem__ = __delitem__ = __iadd__ = __imul__ = refuse

        self.assertEqual(answers(Unchanging(flat(ALL_CALLS))), ALL_ANSWERS)

    def test_nothing_is_kept_from_one_time_to_the_next(self):
        calls = flat(ALL_CALLS)
        first = answers(calls)
        answers(flat([item(), categories(9, 9, 9, 9, 9), day(5), fail(0)]))
        second = answers(calls)
        self.assertEqual(first, ALL_ANSWERS)
        self.assertEqual(second, ALL_ANSWERS)
        self.assertIsNot(first, second)
        self.assertEqual(answers(day()), [1, 1])
        self.assertEqual(answers(fail()), [1, -3])

    def test_a_list_of_whole_numbers_is_given_back(self):
        given = answers(flat(ALL_CALLS))
        self.assertIs(type(given), list)
        self.assertEqual({type(number) for number in given}, {int})

    def test_nothing_is_printed(self):
        out, err = io.StringIO(), io.StringIO()
        with contextlib.redirect_stdout(out), contextlib.redirect_stderr(err):
            answers(flat(ALL_CALLS))
        self.assertEqual(out.getvalue() + err.getvalue(), "")
