"""Asks the program by lists of calls, and takes its answers apart."""

from rightring.lanes import answers

(RING, SET, HIT, RIGHTS, MOVE, TOGETHER, RUN, SETTLED, WORST, WORST_OF_ALL, SCHEDULE, ENDLESS, REPAIR, LEAST_COUNTERS,
 TURNS, STATE) = range(16)

# Those that look at every state of the ring, in a mode.
OVER_STATES = (WORST, WORST_OF_ALL, SCHEDULE, ENDLESS, REPAIR)

HUGE = 1000000000000000000


def flat(calls):
    """The one list of whole numbers for calls like (RING, 3, 4) and (SET, [0, 1, 2])."""
    numbers = []
    for call in calls:
        for part in call:
            if isinstance(part, list):
                numbers.append(len(part))
                numbers.extend(part)
            else:
                numbers.append(part)
    return numbers


def apart(told):
    """The answers, one list a call."""
    lists = []
    at = 0
    while at < len(told):
        count = told[at]
        lists.append(told[at + 1:at + 1 + count])
        assert len(lists[-1]) == count, told
        at += 1 + count
    return lists


def ask(*calls):
    """The answers to these calls, one list a call."""
    told = answers(flat(calls))
    assert type(told) is list, told
    assert all(type(number) is int for number in told), told
    lists = apart(told)
    assert len(lists) == len(calls), (calls, told)
    return lists


def last(*calls):
    """The answer to the last of these calls."""
    return ask(*calls)[-1]


def moved(*calls):
    """How often each lane moved by these calls."""
    told = last(*calls, (TURNS,))
    assert told[0] == len(told) - 1, told
    return told[1:]


def counter_of(calls, n, k, lane):
    """A lane's counter behind these calls: each counter is tried on the next lane, whose right tells if it's the same."""
    behind = (lane + 1) % n
    same = []
    for counter in range(k):
        row = last(*calls, (HIT, behind, counter), (RIGHTS,))[1:]
        if (behind in row) == (behind == 0):
            same.append(counter)
    assert len(same) == 1, (calls, lane, same)
    return same[0]


def counters(calls, n, k):
    """All counters behind these calls."""
    return [counter_of(calls, n, k, lane) for lane in range(n)]
