"""The longest ways of a ring's states until it is settled, and the schedules by which it takes so long, or for ever."""

from rightring.states import counters_behind_step, counters_of, how_many_states, is_settled, lanes_with_right, number_of

# Mode 0, in which a step has just one lane, and mode 1, in which it has any number of them.
ALONE = 0
AT_ONCE = 1

# The number of a step of one lane alone, by the lane.
LANE_NUMBERS = (1, 2, 4, 8, 16, 32)

# Stands for the longest way of a state that has none.
NO_WAY = -1


class Ways:
    """Each state's steps and longest way, by the state's number, in a ring of one size and in one mode."""

    def __init__(self, n, k, mode):
        self.steps = [steps_from(counters_of(state, n, k), k, mode) for state in range(how_many_states(n, k))]
        self.longest = longest_ways(self.steps)


def is_mode(number):
    return number == ALONE or number == AT_ONCE


def steps_among(lanes, mode):
    """The steps that these lanes can make, each as its number and its lanes, the smaller number first."""
    steps = []
    for lane in lanes:
        own = LANE_NUMBERS[lane]
        joined = [(number + own, others + [lane]) for number, others in steps] if mode == AT_ONCE else []
        # A step with this lane has a greater number than any of the lanes before it, so the numbers rise.
        steps = steps + [(own, [lane])] + joined
    return steps


def steps_from(counters, k, mode):
    """The steps that count for a longest way, each as its number and the state behind it: none if it's settled."""
    if is_settled(counters):
        return []
    steps = steps_among(lanes_with_right(counters), mode)
    return [(number, number_of(counters_behind_step(counters, k, lanes), k)) for number, lanes in steps]


def all_end(steps, longest):
    return all([longest[behind] != NO_WAY for number, behind in steps])


def states_that_end_next(steps, longest):
    """The states without a way so far of which each step leads to a state that has one."""
    return [state for state in range(len(steps)) if longest[state] == NO_WAY and all_end(steps[state], longest)]


def longest_ways(steps):
    longest = [0 if len(own) == 0 else NO_WAY for own in steps]
    length = 1
    ended = states_that_end_next(steps, longest)
    # A state gets its way one round behind the last of those that its steps lead to, so the round is the way's length.
    # From a state that gets none some step leads to such a state again, so its ways don't end.
    while len(ended) > 0:
        for state in ended:
            longest[state] = length
        length += 1
        ended = states_that_end_next(steps, longest)
    return longest


def least_step_to(ways, state, wanted):
    """The step of the least number behind which the longest way is the wanted one: its number and the state behind."""
    return [step for step in ways.steps[state] if ways.longest[step[1]] == wanted][0]


def longest_schedule(ways, start):
    numbers = []
    state = start
    while ways.longest[state] > 0:
        step = least_step_to(ways, state, ways.longest[state] - 1)
        numbers.append(step[0])
        state = step[1]
    return numbers


def endless_schedule(ways, start):
    """The numbers of the steps until a state is there again, and how many were made before it was there first."""
    numbers = []
    made_before = {}
    state = start
    while state not in made_before:
        made_before[state] = len(numbers)
        step = least_step_to(ways, state, NO_WAY)
        numbers.append(step[0])
        state = step[1]
    return (numbers, made_before[state])
