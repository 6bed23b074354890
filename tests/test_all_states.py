"""Every state of small rings, and long lines of calls, against the document's words written down once more."""

import functools
import itertools
import random
import unittest

from helper import (ENDLESS, HIT, HUGE, LEAST_COUNTERS, MOVE, OVER_STATES, REPAIR, RIGHTS, RING, RUN, SCHEDULE, SET,
                    SETTLED, STATE, TOGETHER, TURNS, WORST, WORST_OF_ALL, apart, ask, flat)
from rightring.lanes import answers

# Every size that hasn't too many states.
SIZES = [(n, k) for n in range(2, 7) for k in range(1, 17) if k ** n <= 400]


def has(state, i):
    return (state[i] == state[i - 1]) == (i == 0)


def with_right(state):
    return [i for i in range(len(state)) if has(state, i)]


def behind(state, k, step):
    return tuple((c + 1) % k if i in step and i == 0 else state[i - 1] if i in step else c for i, c in enumerate(state))


def states_of(n, k):
    return itertools.product(range(k), repeat=n)


def some(lanes):
    for count in range(1, len(lanes) + 1):
        yield from itertools.combinations(lanes, count)


def steps(state, k, mode):
    """The state behind each step, by the step's number; none of them counts in a settled state."""
    lanes = with_right(state)
    if len(lanes) == 1:
        return {}
    made = some(lanes) if mode == 1 else [(lane,) for lane in lanes]
    return {sum(2 ** i for i in step): behind(state, k, step) for step in made}


@functools.lru_cache(maxsize=None)
def longest_ways(n, k, mode):
    """Each state's longest way, or None: from which states is there a schedule of 1 step, of 2 steps, and so on?"""
    follow = {state: set(steps(state, k, mode).values()) for state in states_of(n, k)}
    longest = dict.fromkeys(follow, 0)
    can = set(follow)
    for length in range(1, len(follow) + 1):
        can = {state for state in can if follow[state] & can}
        longest.update(dict.fromkeys(can, length))
    # In a schedule of as many steps as there are states one of these is there twice, and so again and again.
    return {state: None if state in can else longest[state] for state in follow}


def schedule(state, k, mode):
    ways = longest_ways(len(state), k, mode)
    numbers = []
    while ways[state]:
        after = steps(state, k, mode)
        numbers.append(min(number for number in after if ways[after[number]] == ways[state] - 1))
        state = after[numbers[-1]]
    return numbers


def endless(state, k, mode):
    ways = longest_ways(len(state), k, mode)
    numbers, states = [], [state]
    while len(states) == len(set(states)):
        after = steps(states[-1], k, mode)
        numbers.append(min(number for number in after if ways[after[number]] is None))
        states.append(after[numbers[-1]])
    return [states.index(states[-1]), len(numbers), *numbers]


def one_counter_off(state, k):
    return [other for other in states_of(len(state), k) if sum(a != b for a, b in zip(state, other)) == 1]


class Model:
    """Answers one call at a time, straight from the words."""

    def __init__(self):
        self.k = 0
        self.state = ()
        self.turns = []

    def call(self, place, *told):
        if place == LEAST_COUNTERS:
            return self.least_counters(*told)
        if place != RING and not self.state:
            return [-2]
        if place == RING:
            if told[0] not in range(2, 7) or told[1] not in range(1, 17):
                return [-1]
            self.k, self.state, self.turns = told[1], (0,) * told[0], [0] * told[0]
            return [0]
        lanes, marks, row = range(len(self.state)), range(self.k), told[0] if told else []
        if place == SET:
            if len(row) != len(lanes) or any(v not in marks for v in row):
                return [-1]
            self.state, self.turns = tuple(row), [0] * len(row)
            return [0]
        if place == HIT:
            if told[0] not in lanes or told[1] not in marks:
                return [-1]
            self.state = self.state[:told[0]] + (told[1],) + self.state[told[0] + 1:]
            return [0]
        if place == RIGHTS:
            return [len(with_right(self.state)), *with_right(self.state)]
        if place == SETTLED:
            return [int(len(with_right(self.state)) == 1)]
        if place in OVER_STATES:
            return self.over_states(place, *told)
        if place == TURNS:
            return [len(self.turns), *self.turns]
        if place == STATE:
            return [len(lanes), self.k, len(lanes), *self.state, len(lanes), *self.turns]
        if place == RUN:
            return self.run(row)
        step = [told[0]] if place == MOVE else row
        if not step or any(i not in lanes for i in step) or step != sorted(set(step)):
            return [-1]
        if not set(step) <= set(with_right(self.state)):
            return [-6]
        self.make(step)
        return [self.state[told[0]]] if place == MOVE else self.call(RIGHTS)

    def make(self, step):
        self.state = behind(self.state, self.k, step)
        self.turns = [count + (lane in step) for lane, count in enumerate(self.turns)]

    def run(self, row):
        if len(row) > 64 or any(d not in range(1000000001) for d in row):
            return [-1]
        states = [self.state]
        for d in row:
            lanes = with_right(states[-1])
            self.make([lanes[d % len(lanes)]])
            states.append(self.state)
        settled = [i for i, state in enumerate(states) if len(with_right(state)) == 1]
        return [1, settled[0]] if settled else [0]

    def over_states(self, place, mode):
        n, k = len(self.state), self.k
        if mode not in (0, 1):
            return [-1]
        if k ** n > 400:
            return [-8]
        ways = longest_ways(n, k, mode)
        if place == ENDLESS:
            return [-7] if ways[self.state] is not None else endless(self.state, k, mode)
        if place == REPAIR and len(with_right(self.state)) != 1:
            return [-6]
        looked_at = {WORST_OF_ALL: list(ways), REPAIR: one_counter_off(self.state, k)}.get(place, [self.state])
        if any(ways[state] is None for state in looked_at):
            return [-7]
        if place == SCHEDULE:
            numbers = schedule(self.state, k, mode)
            return [len(numbers), *numbers]
        greatest = max([ways[state] for state in looked_at], default=0)
        if place != WORST_OF_ALL:
            return [greatest]
        having = [state for state in looked_at if ways[state] == greatest]
        return [greatest, n, *min(having, key=lambda state: sum(c * k ** i for i, c in enumerate(state)))]

    def least_counters(self, n, mode):
        if n not in (2, 3, 4) or mode not in (0, 1):
            return [-1]
        return [next((k for k in (2, 3, 4, 5) if None not in longest_ways(n, k, mode).values()), 0)]


class AllStatesTest(unittest.TestCase):
    def test_rights_and_settled(self):
        for n, k in SIZES:
            for state in states_of(n, k):
                told = ask((RING, n, k), (SET, list(state)), (RIGHTS,), (SETTLED,))
                lanes = with_right(state)
                self.assertEqual(told[2], [len(lanes), *lanes])
                self.assertEqual(told[3], [int(len(lanes) == 1)])

    def test_some_lane_always_has_the_right(self):
        for n, k in SIZES:
            for state in states_of(n, k):
                self.assertGreaterEqual(ask((RING, n, k), (SET, list(state)), (RIGHTS,))[2][0], 1)

    def test_move_of_every_lane(self):
        for n, k in SIZES:
            for state in states_of(n, k):
                for lane in range(-1, n + 1):
                    self.same([(RING, n, k), (SET, list(state)), (MOVE, lane), (RIGHTS,)])

    def test_together_of_every_step(self):
        for n, k in SIZES:
            for state in states_of(n, k):
                for step in some(range(n)):
                    self.same([(RING, n, k), (SET, list(state)), (TOGETHER, list(step)), (RIGHTS,)])

    def test_a_settled_ring_stays_settled(self):
        for n, k in SIZES:
            for state in states_of(n, k):
                before = ((RING, n, k), (SET, list(state)))
                told = ask(*before, (SETTLED,), (RIGHTS,))
                if told[2] == [1]:
                    lane = told[3][1]
                    self.assertEqual(ask(*before, (MOVE, lane), (SETTLED,))[3], [1])
                    self.assertEqual(ask(*before, (TOGETHER, [lane]), (SETTLED,))[3], [1])
                    self.assertEqual(ask(*before, (RUN, [7, 1000000000, 0]), (SETTLED,))[2:], [[1, 0], [1]])

    def test_with_as_many_counters_as_lanes_every_state_has_a_longest_way(self):
        for n, k in SIZES:
            if k >= n:
                for calls in self.lines(n, k, [(WORST, 0), (WORST, 1)]):
                    self.assertGreaterEqual(min(ask(*calls)), [0], (n, k))

    def test_the_ways_of_every_state(self):
        for n, k in SIZES:
            for calls in self.lines(n, k, [(place, mode) for place in OVER_STATES for mode in (0, 1)]):
                self.same(calls)

    def test_a_longest_schedule_is_made_as_told(self):
        for n, k, mode in ((3, 3, 1), (4, 3, 0), (4, 4, 1)):
            for state in states_of(n, k):
                calls = [(RING, n, k), (SET, list(state))]
                numbers = ask(*calls, (SCHEDULE, mode))[2][1:]
                for number in numbers:
                    calls += [(SETTLED,), (TOGETHER, [i for i in range(n) if number >> i & 1])]
                told = ask(*calls, (SETTLED,))
                self.assertEqual(told[2::2], [[0]] * len(numbers) + [[1]])

    def test_an_endless_schedule_comes_round(self):
        for n, k, mode in ((3, 2, 1), (4, 3, 1), (5, 2, 0), (6, 2, 1)):
            for state in states_of(n, k):
                calls = [(RING, n, k), (SET, list(state)), (STATE,)]
                told = ask(*calls, (ENDLESS, mode))[3]
                if told != [-7]:
                    for number in told[2:]:
                        calls += [(TOGETHER, [i for i in range(n) if number >> i & 1]), (STATE,)]
                    states = [tuple(answer[3:3 + n]) for answer in ask(*calls)[2::2]]
                    self.assertEqual(states.index(states[-1]), told[0])
                    self.assertEqual(len(set(states)), len(states) - 1)

    def lines(self, n, k, asked):
        """Lines of at most 400 calls that ask this of every state."""
        most = 399 // (1 + len(asked))
        states = list(states_of(n, k))
        for at in range(0, len(states), most):
            yield [(RING, n, k), *itertools.chain(*[((SET, list(state)), *asked) for state in states[at:at + most]])]

    def same(self, calls):
        model = Model()
        self.assertEqual(ask(*calls), [model.call(*call) for call in calls], calls)


class LongLinesTest(unittest.TestCase):
    def number(self, source, good):
        if source.random() < 0.04:
            return source.choice((-1, -2, good, good + 1, 16, 1000000000, 1000000001, HUGE, -HUGE))
        return source.randrange(good)

    def row_for(self, source, place, n, k):
        if source.random() < 0.04:
            return [self.number(source, n) for at in range(source.choice((0, 1, n - 1, n + 1, 64, 65, 100)))]
        if place == SET:
            return [self.number(source, k) for lane in range(n)]
        if place == TOGETHER:
            return sorted(source.sample(range(n), source.choice((1, 1, 2))))
        return [self.number(source, 1000000001) for at in range(source.choice((0, 1, 2, 5, 9)))]

    def call_for(self, source, n, k):
        place = source.choice((SET, SET, HIT, HIT, RIGHTS, MOVE, MOVE, TOGETHER, TOGETHER, RUN, SETTLED, TURNS, STATE,
                               LEAST_COUNTERS, *OVER_STATES))
        if place in (SET, TOGETHER, RUN):
            return (place, self.row_for(source, place, n, k))
        if place == HIT:
            return (place, self.number(source, n), self.number(source, k))
        if place in OVER_STATES:
            return (place, self.number(source, 2))
        if place == LEAST_COUNTERS:
            return (place, source.choice((2, 3, 4, self.number(source, 6))), self.number(source, 2))
        return (place, self.number(source, n)) if place == MOVE else (place,)

    def size(self, source):
        return source.choice(SIZES) if source.random() < 0.8 else (source.randrange(2, 7), source.randrange(1, 17))

    def same(self, calls):
        model = Model()
        wanted = [model.call(*call) for call in calls]
        handed = flat(calls)
        self.assertLessEqual(len(handed), 16000)
        told = answers(handed)
        self.assertEqual(apart(told), wanted, calls)
        self.assertEqual(told, flat([(answer,) for answer in wanted]))
        self.assertEqual(handed, flat(calls))
        self.assertNotIn([-100], wanted)
        return wanted

    def test_as_the_model(self):
        seen = {}
        for seed in range(400):
            source = random.Random(seed)
            calls = []
            n, k = 3, 3
            for at in range(source.randrange(1, 121)):
                if at == 2 or source.random() < 0.02:
                    n, k = self.size(source)
                    calls.append((RING, n, k))
                else:
                    calls.append(self.call_for(source, n, k))
            for call, answer in zip(calls, self.same(calls)):
                seen[call[0], min(answer[0], 0)] = True
        refusals = {RING: (), SET: (-2, -1), HIT: (-2, -1), RIGHTS: (-2,), MOVE: (-2, -1, -6),
                    TOGETHER: (-2, -1, -6), RUN: (-2, -1), SETTLED: (-2,), WORST: (-2, -1, -8, -7),
                    WORST_OF_ALL: (-2, -1, -8, -7), SCHEDULE: (-2, -1, -8, -7), ENDLESS: (-2, -1, -8, -7),
                    REPAIR: (-2, -1, -8, -6, -7), LEAST_COUNTERS: (-1,), TURNS: (-2,), STATE: (-2,)}
        for place in refusals:
            for refusal in (0, *refusals[place]):
                self.assertIn((place, refusal), seen)

    def test_400_calls_of_every_kind(self):
        for seed in range(5):
            source = random.Random(seed)
            n, k = source.choice(((3, 2), (4, 3), (4, 4), (5, 3), (6, 2)))
            calls = [(RING, n, k)]
            while len(calls) < 400:
                calls.append(self.call_for(source, n, k))
            self.same(calls)

    def over_states(self, count):
        """So many of the calls 8 to 13, in both modes."""
        asked = [(place, mode) for place in OVER_STATES for mode in (0, 1)]
        asked += [(LEAST_COUNTERS, n, mode) for n in (2, 3, 4) for mode in (0, 1)]
        return [asked[at % len(asked)] for at in range(count)]

    def test_400_calls_8_to_13_alone(self):
        wanted = self.same(self.over_states(400))
        self.assertEqual(len(wanted), 400)
        self.assertIn([4], wanted)

    def test_399_calls_8_to_13_on_one_ring(self):
        for n, k in ((3, 7), (4, 4), (5, 3), (6, 2), (2, 16), (6, 16)):
            self.same([(RING, n, k), *self.over_states(399)])
            self.same([(RING, n, k), (SET, [0, 1, 0, 1, 0, 0][:n]), *self.over_states(398)])

    def test_400_calls_that_change_the_size_each_time(self):
        calls = []
        for at in range(200):
            calls.append((RING, *SIZES[at % len(SIZES)]))
            calls.append((OVER_STATES[at % 5], at // 5 % 2))
        self.same(calls)


if __name__ == "__main__":
    unittest.main()
