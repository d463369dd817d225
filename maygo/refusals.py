"""The numbers of the refusals, and what is asked ahead of most of them."""

OUT_OF_RANGE = -1
FULL = -2
NOT_THERE = -3
ALL_BROKEN = -4
NONE_BROKEN = -5
NOT_POSSIBLE = -6
TOO_MANY_WAYS = -7
NOT_FITTING = -8


def within(number, least, most):
    return least <= number <= most


# A number below 0 is no item and no rule either: it must never be taken as a
# place counted from the end.
def has_item(state, a):
    return within(a, 0, len(state.equipment) - 1)


def has_rule(state, number):
    return within(number, 0, len(state.rules) - 1)
