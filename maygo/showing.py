"""The calls that show what is kept: state, rule, totals, log."""

from maygo.refusals import NOT_THERE, OUT_OF_RANGE, has_item, has_rule, within
from maygo.units import last_day

MOST_FIRST_EVENT = 100000
MOST_EVENTS_SHOWN = 50


def show_item(state, a):
    if not has_item(state, a):
        return [NOT_THERE]
    item = state.equipment[a]
    shown = []
    for unit in item.broken:
        shown.extend([unit[0], last_day(state, item, unit)])
    works = item.units - len(item.broken)
    return [item.units, works, item.category, item.hours, len(shown)] + shown


def show_rule(state, number):
    if not has_rule(state, number):
        return [NOT_THERE]
    rule = state.rules[number]
    numbers = [rule.kind, rule.a, rule.x, rule.b, rule.y, rule.condition]
    return numbers + [len(rule.listed)] + list(rule.listed)


def show_totals(state):
    broken = sum([len(item.broken) for item in state.equipment])
    hours = sum([len(item.broken) * item.hours for item in state.equipment])
    return [state.today, len(state.equipment), len(state.rules), broken, hours, len(state.events)]


def show_events(state, k):
    if not within(k, 0, MOST_FIRST_EVENT):
        return [OUT_OF_RANGE]
    shown = []
    for event in state.events[k:k + MOST_EVENTS_SHOWN]:
        shown.extend(list(event))
    return [len(shown)] + shown
