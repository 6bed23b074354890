"""The ring of lanes, and the answers to a list of calls on it."""

OUT_OF_RANGE = -1
NO_RING = -2
NO_RIGHT = -6
NO_CALL = -100

LEAST_LANES = 2
MOST_LANES = 6
LEAST_COUNTERS = 1
MOST_COUNTERS = 16
LONGEST_RUN = 64
GREATEST_DRAW = 1000000000


class Ring:
    """The object of a list of calls; it has no lanes as long as there is no ring."""

    def __init__(self):
        self.n = 0
        self.k = 0
        self.counters = []
        self.moved = []


def all_within(numbers, least, greatest):
    return all([least <= number <= greatest for number in numbers])


def all_rising(numbers):
    return all([numbers[at - 1] < numbers[at] for at in range(1, len(numbers))])


def row_of(numbers):
    return [len(numbers)] + numbers


def has_right(counters, lane):
    if lane == 0:
        return counters[0] == counters[len(counters) - 1]
    return counters[lane] != counters[lane - 1]


def lanes_with_right(counters):
    return [lane for lane in range(len(counters)) if has_right(counters, lane)]


def is_settled(counters):
    return len(lanes_with_right(counters)) == 1


def counter_behind_move(counters, k, lane):
    if lane == 0:
        return (counters[0] + 1) % k
    return counters[lane - 1]


def counters_behind_step(counters, k, lanes):
    # The old counters stay as they are, since every lane of a step looks at those.
    behind = list(counters)
    for lane in lanes:
        behind[lane] = counter_behind_move(counters, k, lane)
    return behind


def make_step(ring, lanes):
    ring.counters = counters_behind_step(ring.counters, ring.k, lanes)
    for lane in lanes:
        ring.moved[lane] += 1


def put_counters(ring, counters):
    ring.counters = list(counters)
    ring.moved = [0] * len(counters)


def begin(ring, given):
    n = given[0]
    k = given[1]
    if not LEAST_LANES <= n <= MOST_LANES or not LEAST_COUNTERS <= k <= MOST_COUNTERS:
        return [OUT_OF_RANGE]
    ring.n = n
    ring.k = k
    put_counters(ring, [0] * n)
    return [0]


def set_to(ring, given):
    if len(given) != ring.n or not all_within(given, 0, ring.k - 1):
        return [OUT_OF_RANGE]
    put_counters(ring, given)
    return [0]


def hit(ring, given):
    lane = given[0]
    counter = given[1]
    if not 0 <= lane < ring.n or not 0 <= counter < ring.k:
        return [OUT_OF_RANGE]
    ring.counters[lane] = counter
    return [0]


def rights(ring, given):
    return row_of(lanes_with_right(ring.counters))


def move(ring, given):
    lane = given[0]
    if not 0 <= lane < ring.n:
        return [OUT_OF_RANGE]
    if not has_right(ring.counters, lane):
        return [NO_RIGHT]
    make_step(ring, [lane])
    return [ring.counters[lane]]


def together(ring, given):
    if len(given) == 0 or not all_within(given, 0, ring.n - 1) or not all_rising(given):
        return [OUT_OF_RANGE]
    if not all([has_right(ring.counters, lane) for lane in given]):
        return [NO_RIGHT]
    make_step(ring, given)
    return row_of(lanes_with_right(ring.counters))


def move_drawn(ring, draw):
    lanes = lanes_with_right(ring.counters)
    make_step(ring, [lanes[draw % len(lanes)]])


def run(ring, given):
    if len(given) > LONGEST_RUN or not all_within(given, 0, GREATEST_DRAW):
        return [OUT_OF_RANGE]
    answer = [1, 0] if is_settled(ring.counters) else [0]
    for at in range(len(given)):
        move_drawn(ring, given[at])
        if answer[0] == 0 and is_settled(ring.counters):
            answer = [1, at + 1]
    return answer


def settled(ring, given):
    return [1 if is_settled(ring.counters) else 0]


# Each call's function, by its place; a place behind the last one has none yet.
CALLS = (begin, set_to, hit, rights, move, together, run, settled)

# How many numbers each place is told with, a row not counted: without this the call behind isn't found.
NUMBERS = (2, 0, 2, 0, 1, 0, 0, 0, 1, 1, 1, 1, 1, 2, 0, 0)

# The places of the calls that are told with a row: set, together and run.
WITH_ROW = (1, 5, 6)

# The places of ring and least counters, which need no ring.
WITHOUT_RING = (0, 13)


def answer_of_call(ring, place, given):
    if place >= len(CALLS):
        return [NO_CALL]
    if ring.n == 0 and place not in WITHOUT_RING:
        return [NO_RING]
    call = CALLS[place]
    return call(ring, given)


def answers(calls):
    ring = Ring()
    told = []
    at = 0
    while at < len(calls):
        place = calls[at]
        start = at + 1
        count = NUMBERS[place]
        if place in WITH_ROW:
            count = calls[start]
            start += 1
        at = start + count
        answer = answer_of_call(ring, place, calls[start:at])
        told.append(len(answer))
        told.extend(answer)
    return told
