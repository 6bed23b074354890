"""A state of a ring, which is the counters of its lanes: who has the right, what a step makes of it, its number."""


def has_right(counters, lane):
    if lane == 0:
        return counters[0] == counters[len(counters) - 1]
    return counters[lane] != counters[lane - 1]


def lanes_with_right(counters):
    return [lane for lane in range(len(counters)) if has_right(counters, lane)]


def is_settled(counters):
    return len(lanes_with_right(counters)) == 1


def counter_behind_move(counters, k, lane):
    if lane == 0:
        return (counters[0] + 1) % k
    return counters[lane - 1]


def counters_behind_step(counters, k, lanes):
    # The old counters stay as they are, since every lane of a step looks at those.
    behind = list(counters)
    for lane in lanes:
        behind[lane] = counter_behind_move(counters, k, lane)
    return behind


def how_many_states(n, k):
    count = 1
    for lane in range(n):
        count *= k
    return count


def number_of(counters, k):
    number = 0
    for counter in reversed(counters):
        number = number * k + counter
    return number


def counters_of(state, n, k):
    counters = []
    rest = state
    for lane in range(n):
        counters.append(rest % k)
        rest = rest // k
    return counters


def states_one_counter_off(counters, k):
    """The numbers of the states that differ from this one in just one counter."""
    states = []
    for lane in range(len(counters)):
        for counter in range(k):
            if counter != counters[lane]:
                states.append(number_of(counters[:lane] + [counter] + counters[lane + 1:], k))
    return states
