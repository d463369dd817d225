"""The calls in their flat form, and the answers taken apart again."""

from maygo.desk import answers

LOWEST = -1000000000000000000
HIGHEST = 1000000000000000000

CLEAR = [0]
TOTALS = [17]


def item(units=1, category=0, hours=1):
    return [1, units, category, hours]


def need(a, x=0, condition=8):
    return [2, a, x, condition]


def pair(a, x, b, y, condition=8):
    return [3, a, x, b, y, condition]


def group(k, condition, listed):
    return [4, k, condition, len(listed)] + list(listed)


def categories(d0=0, d1=3, d2=10, d3=120, lasting=0):
    return [5, d0, d1, d2, d3, lasting]


def day(n=1):
    return [6, n]


def fail(a=0):
    return [7, a]


def repair(a=0):
    return [8, a]


def extend(a=0):
    return [9, a]


def go(condition=0):
    return [10, condition]


def till(condition=0):
    return [11, condition]


def least(condition=0, h=0):
    return [12, condition, h]


def hard(condition=0):
    return [13, condition]


def weak(condition=0):
    return [14, condition]


def state(a=0):
    return [15, a]


def rule(number=0):
    return [16, number]


def log(k=0):
    return [18, k]


def flat(calls):
    return [number for call in calls for number in call]


def taken_apart(given):
    """The answers of the calls, one list each; the counts must come out even."""
    parts = []
    at = 0
    while at < len(given):
        end = at + 1 + given[at]
        if given[at] < 1 or end > len(given):
            raise AssertionError("a count is wrong at place " + str(at))
        parts.append(given[at + 1:end])
        at = end
    return parts


def told(*calls):
    """What each of the calls is answered, one list each."""
    parts = taken_apart(answers(flat(calls)))
    if len(parts) != len(calls):
        raise AssertionError("%d answers to %d calls" % (len(parts), len(calls)))
    return parts


def reply(*calls):
    """What the last of the calls is answered, number by number."""
    return told(*calls)[-1]


def firsts(*calls):
    """What each of the calls is answered, where each is answered by one number."""
    parts = told(*calls)
    if any(len(part) != 1 for part in parts):
        raise AssertionError("more than one number in " + str(parts))
    return [part[0] for part in parts]


def last(*calls):
    """What the last of the calls is answered, by one number."""
    return firsts(*calls)[-1]
