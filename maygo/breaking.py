"""The calls that ask what further failures can do: hard, weak."""

from maygo.holding import NO_RULE, asked_rules, broken_now, first_broken, how_many_work, is_condition
from maygo.refusals import OUT_OF_RANGE
from maygo.rules import GROUP_KIND, NEED_KIND

NEVER = -1


# Until fewer than x units of item a work.
def failures_of_side(state, a, x, broken):
    if x == 0:
        return NEVER
    return max(0, how_many_work(state, a, broken) - x + 1)


def failures_of_group(state, rule, broken):
    if sum([state.equipment[a].units for a in rule.listed]) <= rule.x:
        return NEVER
    return max(0, rule.x - sum([broken[a] for a in rule.listed]) + 1)


def failures_to_break(state, rule, broken):
    if rule.kind == GROUP_KIND:
        return failures_of_group(state, rule, broken)
    of_a = failures_of_side(state, rule.a, rule.x, broken)
    if rule.kind == NEED_KIND:
        return of_a
    of_b = failures_of_side(state, rule.b, rule.y, broken)
    if of_a == NEVER or of_b == NEVER:
        return NEVER
    return of_a + of_b


def ask_hard(state, condition):
    if not is_condition(condition):
        return [OUT_OF_RANGE]
    broken = broken_now(state)
    failures = [failures_to_break(state, state.rules[number], broken) for number in asked_rules(state, condition)]
    return [0, min([count for count in failures if count != NEVER], default=NEVER)]


# A rule that is broken already stays broken, so it makes each item weak of
# which some unit works, as it should.
def is_weak(state, a, numbers):
    broken = broken_now(state)
    if how_many_work(state, a, broken) == 0:
        return False
    broken[a] = broken[a] + 1
    return first_broken(state, numbers, broken) != NO_RULE


def ask_weak(state, condition):
    if not is_condition(condition):
        return [OUT_OF_RANGE]
    numbers = asked_rules(state, condition)
    weak = [a for a in range(len(state.equipment)) if is_weak(state, a, numbers)]
    return [len(weak)] + weak
