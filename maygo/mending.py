"""The call that asks what must be repaired at least: least."""

from maygo.holding import NO_RULE, asked_rules, broken_now, first_broken, is_condition
from maygo.refusals import OUT_OF_RANGE, TOO_MANY_WAYS, within
from maygo.units import left_too_long

MOST_AHEAD = 1000
MOST_WAYS = 5000


def count_ways(state):
    ways = 1
    for broken in broken_now(state):
        ways = ways * (broken + 1)
    return ways


# Repairs take the oldest units first, but an older one that was extended may
# last longer than a newer one: so the last in order that is left too long
# tells how many repairs there must be.
def fewest_repairs(state, item, day):
    fewest = 0
    for place in range(len(item.broken)):
        if left_too_long(state, item, item.broken[place], day):
            fewest = place + 1
    return fewest


# Pairs (hours, repairs of each item). In the order of such pairs the one with
# the fewest hours comes first, and of those alike the one with the fewest
# repairs of item 0, then of item 1, and so on.
def ways_in_order(state, day):
    ways = [(0, [])]
    for item in state.equipment:
        counts = list(range(fewest_repairs(state, item, day), len(item.broken) + 1))
        longer = []
        for way in ways:
            longer.extend([(way[0] + count * item.hours, way[1] + [count]) for count in counts])
        ways = longer
    return sorted(ways)


# The rule that refused one way is asked first of the next: most often it
# refuses that one too, and thousands of ways may have to be refused.
# With everything repaired each rule holds, so one way is always found.
def first_way_that_holds(state, ways, numbers):
    asked = list(numbers)
    before = broken_now(state)
    for way in ways:
        after = [before[a] - way[1][a] for a in range(len(before))]
        number = first_broken(state, asked, after)
        if number == NO_RULE:
            return way
        asked.remove(number)
        asked.insert(0, number)
    return ways[-1]


def ask_least(state, condition, h):
    if not (is_condition(condition) and within(h, 0, MOST_AHEAD)):
        return [OUT_OF_RANGE]
    if count_ways(state) > MOST_WAYS:
        return [TOO_MANY_WAYS]
    ways = ways_in_order(state, state.today + h)
    way = first_way_that_holds(state, ways, asked_rules(state, condition))
    return [0, way[0]] + way[1]
