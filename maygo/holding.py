"""Which rules are asked in a condition, and which of them are broken."""

from maygo.refusals import within
from maygo.rules import ALL_CONDITIONS, GROUP_KIND, PAIR_KIND

MOST_CONDITION = 7
NO_RULE = -1


# A rule may be asked in all conditions, but nothing can go in all of them at once.
def is_condition(condition):
    return within(condition, 0, MOST_CONDITION)


def asked_rules(state, condition):
    asked = (condition, ALL_CONDITIONS)
    return [number for number in range(len(state.rules)) if state.rules[number].condition in asked]


def broken_now(state):
    return [len(item.broken) for item in state.equipment]


def how_many_work(state, a, broken):
    return state.equipment[a].units - broken[a]


# How many units of each item are broken is handed in, since it's also asked
# of what would be after repairs or further failures.
def holds(state, rule, broken):
    if rule.kind == GROUP_KIND:
        return sum([broken[a] for a in rule.listed]) <= rule.x
    if how_many_work(state, rule.a, broken) >= rule.x:
        return True
    return rule.kind == PAIR_KIND and how_many_work(state, rule.b, broken) >= rule.y


def first_broken(state, numbers, broken):
    for number in numbers:
        if not holds(state, state.rules[number], broken):
            return number
    return NO_RULE
