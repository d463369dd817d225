"""The calls that tell a rule: need, pair, group."""

from maygo.refusals import FULL, NOT_FITTING, NOT_THERE, OUT_OF_RANGE, has_item, within
from maygo.state import Rule

NEED_KIND = 0
PAIR_KIND = 1
GROUP_KIND = 2

MOST_RULES = 40
MOST_ASKED_UNITS = 8
MOST_GROUP_BROKEN = 80
MOST_LISTED = 10
ALL_CONDITIONS = 8


def may_ask_units(x):
    return within(x, 0, MOST_ASKED_UNITS)


def may_ask_in(condition):
    return within(condition, 0, ALL_CONDITIONS)


def has_units(state, a, x):
    return state.equipment[a].units >= x


def add_rule(state, rule):
    if len(state.rules) == MOST_RULES:
        return [FULL]
    state.rules.append(rule)
    return [len(state.rules) - 1]


def add_need(state, a, x, condition):
    if not (may_ask_units(x) and may_ask_in(condition)):
        return [OUT_OF_RANGE]
    if not has_item(state, a):
        return [NOT_THERE]
    if not has_units(state, a, x):
        return [NOT_FITTING]
    return add_rule(state, Rule(NEED_KIND, a, x, 0, 0, condition, ()))


def add_pair(state, a, x, b, y, condition):
    if not (may_ask_units(x) and may_ask_units(y) and may_ask_in(condition)):
        return [OUT_OF_RANGE]
    if not (has_item(state, a) and has_item(state, b)):
        return [NOT_THERE]
    if a == b or not (has_units(state, a, x) and has_units(state, b, y)):
        return [NOT_FITTING]
    return add_rule(state, Rule(PAIR_KIND, a, x, b, y, condition, ()))


def add_group(state, k, condition, listed):
    if not (within(k, 0, MOST_GROUP_BROKEN) and may_ask_in(condition)):
        return [OUT_OF_RANGE]
    if len(listed) > MOST_LISTED:
        return [OUT_OF_RANGE]
    if not all([has_item(state, a) for a in listed]):
        return [NOT_THERE]
    if len(set(listed)) != len(listed):
        return [NOT_FITTING]
    return add_rule(state, Rule(GROUP_KIND, 0, k, 0, 0, condition, tuple(listed)))
