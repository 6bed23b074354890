"""The ring of lanes, and the answers to a list of calls on it."""

from rightring.states import counters_behind_step, counters_of, has_right, how_many_states, is_settled, lanes_with_right
from rightring.states import number_of, states_one_counter_off
from rightring.ways import NO_WAY, Ways, endless_schedule, is_mode, longest_schedule

OUT_OF_RANGE = -1
NO_RING = -2
NO_RIGHT = -6
NOT_SETTLED = -6
WAYS_DO_NOT_END = -7
WAYS_END = -7
TOO_MANY_STATES = -8

LEAST_LANES = 2
MOST_LANES = 6
LEAST_COUNTERS = 1
MOST_COUNTERS = 16
LONGEST_RUN = 64
GREATEST_DRAW = 1000000000
MOST_STATES = 400

# Least counters asks for rings of at most so many lanes, and tries these counts of counters.
MOST_LANES_ASKED = 4
COUNTERS_TRIED = (2, 3, 4, 5)


class Ring:
    """The object of a list of calls; it has no lanes as long as there is no ring."""

    def __init__(self):
        self.n = 0
        self.k = 0
        self.counters = []
        self.moved = []
        # The ways that were found so far, by n, k and mode: hundreds of calls may ask for the same.
        self.ways = {}


def all_within(numbers, least, greatest):
    return all([least <= number <= greatest for number in numbers])


def all_rising(numbers):
    return all([numbers[at - 1] < numbers[at] for at in range(1, len(numbers))])


def row_of(numbers):
    return [len(numbers)] + numbers


def found_ways(ring, n, k, mode):
    size = (n, k, mode)
    if size not in ring.ways:
        ring.ways[size] = Ways(n, k, mode)
    return ring.ways[size]


def ways_of(ring, mode):
    return found_ways(ring, ring.n, ring.k, mode)


def state_of(ring):
    return number_of(ring.counters, ring.k)


def make_step(ring, lanes):
    ring.counters = counters_behind_step(ring.counters, ring.k, lanes)
    for lane in lanes:
        ring.moved[lane] += 1


def put_counters(ring, counters):
    ring.counters = list(counters)
    ring.moved = [0] * len(counters)


def begin(ring, given):
    n = given[0]
    k = given[1]
    if not LEAST_LANES <= n <= MOST_LANES or not LEAST_COUNTERS <= k <= MOST_COUNTERS:
        return [OUT_OF_RANGE]
    ring.n = n
    ring.k = k
    put_counters(ring, [0] * n)
    return [0]


def set_to(ring, given):
    if len(given) != ring.n or not all_within(given, 0, ring.k - 1):
        return [OUT_OF_RANGE]
    put_counters(ring, given)
    return [0]


def hit(ring, given):
    lane = given[0]
    counter = given[1]
    if not 0 <= lane < ring.n or not 0 <= counter < ring.k:
        return [OUT_OF_RANGE]
    ring.counters[lane] = counter
    return [0]


def rights(ring, given):
    return row_of(lanes_with_right(ring.counters))


def move(ring, given):
    lane = given[0]
    if not 0 <= lane < ring.n:
        return [OUT_OF_RANGE]
    if not has_right(ring.counters, lane):
        return [NO_RIGHT]
    make_step(ring, [lane])
    return [ring.counters[lane]]


def together(ring, given):
    if len(given) == 0 or not all_within(given, 0, ring.n - 1) or not all_rising(given):
        return [OUT_OF_RANGE]
    if not all([has_right(ring.counters, lane) for lane in given]):
        return [NO_RIGHT]
    make_step(ring, given)
    return row_of(lanes_with_right(ring.counters))


def move_drawn(ring, draw):
    lanes = lanes_with_right(ring.counters)
    make_step(ring, [lanes[draw % len(lanes)]])


def run(ring, given):
    if len(given) > LONGEST_RUN or not all_within(given, 0, GREATEST_DRAW):
        return [OUT_OF_RANGE]
    answer = [1, 0] if is_settled(ring.counters) else [0]
    for at in range(len(given)):
        move_drawn(ring, given[at])
        if answer[0] == 0 and is_settled(ring.counters):
            answer = [1, at + 1]
    return answer


def settled(ring, given):
    return [1 if is_settled(ring.counters) else 0]


def worst(ring, given):
    longest = ways_of(ring, given[0]).longest[state_of(ring)]
    return [WAYS_DO_NOT_END if longest == NO_WAY else longest]


def worst_of_all(ring, given):
    longest = ways_of(ring, given[0]).longest
    if NO_WAY in longest:
        return [WAYS_DO_NOT_END]
    greatest = max(longest)
    return [greatest] + row_of(counters_of(longest.index(greatest), ring.n, ring.k))


def schedule(ring, given):
    ways = ways_of(ring, given[0])
    if ways.longest[state_of(ring)] == NO_WAY:
        return [WAYS_DO_NOT_END]
    return row_of(longest_schedule(ways, state_of(ring)))


def endless(ring, given):
    ways = ways_of(ring, given[0])
    if ways.longest[state_of(ring)] != NO_WAY:
        return [WAYS_END]
    told = endless_schedule(ways, state_of(ring))
    return [told[1]] + row_of(told[0])


def repair(ring, given):
    if not is_settled(ring.counters):
        return [NOT_SETTLED]
    longest = ways_of(ring, given[0]).longest
    found = [longest[state] for state in states_one_counter_off(ring.counters, ring.k)]
    if NO_WAY in found:
        return [WAYS_DO_NOT_END]
    return [max(found, default=0)]


def least_counters(ring, given):
    n = given[0]
    mode = given[1]
    if not LEAST_LANES <= n <= MOST_LANES_ASKED or not is_mode(mode):
        return [OUT_OF_RANGE]
    for k in COUNTERS_TRIED:
        if NO_WAY not in found_ways(ring, n, k, mode).longest:
            return [k]
    return [0]


def turns(ring, given):
    return row_of(ring.moved)


def whole_state(ring, given):
    return [ring.n, ring.k] + row_of(ring.counters) + row_of(ring.moved)


# Each call's function, by its place.
CALLS = (begin, set_to, hit, rights, move, together, run, settled, worst, worst_of_all, schedule, endless, repair,
         least_counters, turns, whole_state)

# How many numbers each place is told with, a row not counted: without this the call behind isn't found.
NUMBERS = (2, 0, 2, 0, 1, 0, 0, 0, 1, 1, 1, 1, 1, 2, 0, 0)

# The places of the calls that are told with a row: set, together and run.
WITH_ROW = (1, 5, 6)

# The places of ring and least counters, which need no ring.
WITHOUT_RING = (0, 13)

# The places of the calls, from worst to repair, that are told with a mode and look at every state of the ring.
OVER_STATES = (8, 9, 10, 11, 12)


def refusal_ahead(ring, place, given):
    """The refusal that comes ahead of those that the call's own function finds, or 0 if none is due."""
    if ring.n == 0 and place not in WITHOUT_RING:
        return NO_RING
    if place in OVER_STATES and not is_mode(given[0]):
        return OUT_OF_RANGE
    if place in OVER_STATES and how_many_states(ring.n, ring.k) > MOST_STATES:
        return TOO_MANY_STATES
    return 0


def answer_of_call(ring, place, given):
    refusal = refusal_ahead(ring, place, given)
    if refusal != 0:
        return [refusal]
    call = CALLS[place]
    return call(ring, given)


def answers(calls):
    ring = Ring()
    told = []
    at = 0
    while at < len(calls):
        place = calls[at]
        start = at + 1
        count = NUMBERS[place]
        if place in WITH_ROW:
            count = calls[start]
            start += 1
        at = start + count
        answer = answer_of_call(ring, place, calls[start:at])
        told.append(len(answer))
        told.extend(answer)
    return told
