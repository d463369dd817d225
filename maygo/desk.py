"""Reads the calls from one flat list and answers them in one flat list."""

from maygo.breaking import ask_hard, ask_weak
from maygo.going import ask_go, ask_till
from maygo.mending import ask_least
from maygo.refusals import FULL, OUT_OF_RANGE, within
from maygo.rules import add_group, add_need, add_pair
from maygo.showing import show_events, show_item, show_rule, show_totals
from maygo.state import Item, State
from maygo.units import extend_unit, fail_unit, repair_unit

CLEAR = 0
ITEM = 1
NEED = 2
PAIR = 3
GROUP = 4
CATEGORIES = 5
DAY = 6
FAIL = 7
REPAIR = 8
EXTEND = 9
GO = 10
TILL = 11
LEAST = 12
HARD = 13
WEAK = 14
STATE = 15
RULE = 16
TOTALS = 17

# How many whole numbers stand behind each call's number, by that number;
# the list of a group comes behind them.
NUMBERS_OF_CALLS = (0, 3, 3, 5, 2, 5, 1, 1, 1, 1, 1, 1, 2, 1, 1, 1, 1, 0, 1)

MOST_ITEMS = 10
MOST_UNITS = 8
MOST_CATEGORY = 3
MOST_HOURS = 100
MOST_DAYS = 1000


def clear(state):
    state.begin()
    return [0]


def add_item(state, units, category, hours):
    if not (within(units, 1, MOST_UNITS) and within(category, 0, MOST_CATEGORY) and within(hours, 1, MOST_HOURS)):
        return [OUT_OF_RANGE]
    if len(state.equipment) == MOST_ITEMS:
        return [FULL]
    state.equipment.append(Item(units, category, hours))
    return [len(state.equipment) - 1]


def set_categories(state, days, lasting):
    if not all([within(number, 0, MOST_DAYS) for number in days + [lasting]]):
        return [OUT_OF_RANGE]
    state.days = tuple(days)
    state.lasting = lasting
    return [0]


def pass_days(state, n):
    if not within(n, 1, MOST_DAYS):
        return [OUT_OF_RANGE]
    state.today = state.today + n
    return [state.today]


def answer_telling(state, call, numbers, listed):
    if call == CLEAR:
        return clear(state)
    if call == ITEM:
        return add_item(state, numbers[0], numbers[1], numbers[2])
    if call == NEED:
        return add_need(state, numbers[0], numbers[1], numbers[2])
    if call == PAIR:
        return add_pair(state, numbers[0], numbers[1], numbers[2], numbers[3], numbers[4])
    if call == GROUP:
        return add_group(state, numbers[0], numbers[1], listed)
    if call == CATEGORIES:
        return set_categories(state, numbers[:4], numbers[4])
    return pass_days(state, numbers[0])


def answer_happening(state, call, a):
    if call == FAIL:
        return fail_unit(state, a)
    if call == REPAIR:
        return repair_unit(state, a)
    return extend_unit(state, a)


def answer_asking(state, call, numbers):
    if call == GO:
        return ask_go(state, numbers[0])
    if call == TILL:
        return ask_till(state, numbers[0])
    if call == LEAST:
        return ask_least(state, numbers[0], numbers[1])
    if call == HARD:
        return ask_hard(state, numbers[0])
    return ask_weak(state, numbers[0])


def answer_showing(state, call, numbers):
    if call == STATE:
        return show_item(state, numbers[0])
    if call == RULE:
        return show_rule(state, numbers[0])
    if call == TOTALS:
        return show_totals(state)
    return show_events(state, numbers[0])


def answer_call(state, call, numbers, listed):
    if call <= DAY:
        return answer_telling(state, call, numbers, listed)
    if call <= EXTEND:
        return answer_happening(state, call, numbers[0])
    if call <= WEAK:
        return answer_asking(state, call, numbers)
    return answer_showing(state, call, numbers)


# Only slices of what is handed in are passed on: these are copies, so nothing
# that is done with them reaches the caller's own list.
def answer_calls(state, calls):
    given = []
    at = 0
    while at < len(calls):
        call = calls[at]
        end = at + 1 + NUMBERS_OF_CALLS[call]
        numbers = calls[at + 1:end]
        listed = []
        if call == GROUP:
            first = end + 1
            end = first + calls[end]
            listed = calls[first:end]
        answer = answer_call(state, call, numbers, listed)
        given.append(len(answer))
        given.extend(answer)
        at = end
    return given


def answers(calls):
    return answer_calls(State(), calls)
