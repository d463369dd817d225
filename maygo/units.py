"""The calls by which units break and work again: fail, repair, extend."""

from maygo.refusals import ALL_BROKEN, NONE_BROKEN, NOT_POSSIBLE, NOT_THERE, has_item

FAILED = 0
REPAIRED = 1
EXTENDED = 2


# Reckoned anew each time, since the days of the categories may change while
# a unit is broken.
def last_day(state, item, unit):
    found = unit[0]
    extended = unit[1]
    return found + state.days[item.category] * (1 + extended)


def left_too_long(state, item, unit, day):
    return last_day(state, item, unit) < day


def add_broken(item, unit):
    item.broken = sorted(item.broken + [unit])


def add_event(state, a, what):
    state.events.append((state.today, a, what))


# Today never goes back, so the repair made last is also the newest: if it has
# lasted long enough, every other one has too.
def has_repair_to_take_back(state, item):
    return len(item.repairs) > 0 and state.today - item.repairs[-1][2] < state.lasting


def fail_unit(state, a):
    if not has_item(state, a):
        return [NOT_THERE]
    item = state.equipment[a]
    if len(item.broken) == item.units:
        return [ALL_BROKEN]
    if has_repair_to_take_back(state, item):
        taken = item.repairs.pop()
        add_broken(item, (taken[0], taken[1]))
    else:
        add_broken(item, (state.today, 0))
    add_event(state, a, FAILED)
    return [item.units - len(item.broken)]


def repair_unit(state, a):
    if not has_item(state, a):
        return [NOT_THERE]
    item = state.equipment[a]
    if len(item.broken) == 0:
        return [NONE_BROKEN]
    oldest = item.broken.pop(0)
    item.repairs.append((oldest[0], oldest[1], state.today))
    add_event(state, a, REPAIRED)
    return [oldest[0]]


def may_extend(state, item, unit):
    return unit[1] == 0 and not left_too_long(state, item, unit, state.today)


def extend_unit(state, a):
    if not has_item(state, a):
        return [NOT_THERE]
    item = state.equipment[a]
    ready = [unit for unit in item.broken if may_extend(state, item, unit)]
    if len(ready) == 0:
        return [NOT_POSSIBLE]
    oldest = ready[0]
    extended = (oldest[0], 1)
    item.broken.remove(oldest)
    add_broken(item, extended)
    add_event(state, a, EXTENDED)
    return [last_day(state, item, extended)]
