"""The calls that ask whether it may go, and how long: go, till."""

from maygo.holding import NO_RULE, asked_rules, broken_now, first_broken, is_condition
from maygo.refusals import NOT_POSSIBLE, OUT_OF_RANGE
from maygo.units import last_day, left_too_long

BY_RULE = 1
BY_DAYS = 2
NO_ITEM = -1
FOR_EVER = -1


def first_left_too_long(state):
    for a in range(len(state.equipment)):
        item = state.equipment[a]
        if any([left_too_long(state, item, unit, state.today) for unit in item.broken]):
            return a
    return NO_ITEM


def judge(state, condition):
    a = first_left_too_long(state)
    if a != NO_ITEM:
        return [0, BY_DAYS, a]
    number = first_broken(state, asked_rules(state, condition), broken_now(state))
    if number != NO_RULE:
        return [0, BY_RULE, number]
    return [1, 0, 0]


def ask_go(state, condition):
    if not is_condition(condition):
        return [OUT_OF_RANGE]
    return judge(state, condition)


def all_last_days(state):
    days = []
    for item in state.equipment:
        days.extend([last_day(state, item, unit) for unit in item.broken])
    return days


# If it may go today, the rules hold for as long as nothing changes: only the
# days of broken units run out.
def ask_till(state, condition):
    if not is_condition(condition):
        return [OUT_OF_RANGE]
    if judge(state, condition)[0] == 0:
        return [NOT_POSSIBLE]
    return [0, min(all_last_days(state), default=FOR_EVER)]
