"""Every state of small rings, and long lines of calls, against the document's words written down once more."""

import itertools
import random
import unittest

from helper import HIT, HUGE, MOVE, RIGHTS, RING, RUN, SET, SETTLED, TOGETHER, ask, flat
from rightring.lanes import answers

SIZES = ((2, 1), (2, 2), (2, 3), (2, 4), (3, 1), (3, 2), (3, 3), (3, 4), (4, 2), (4, 3), (5, 2), (6, 2))


def has(state, i):
    return (state[i] == state[i - 1]) == (i == 0)


def with_right(state):
    return [i for i in range(len(state)) if has(state, i)]


def behind(state, k, step):
    return tuple((c + 1) % k if i in step and i == 0 else state[i - 1] if i in step else c for i, c in enumerate(state))


class Model:
    """Answers one call at a time, straight from the words."""

    def __init__(self):
        self.k = 0
        self.state = ()

    def call(self, place, *told):
        if place != RING and not self.state:
            return [-2]
        if place == RING:
            if told[0] not in range(2, 7) or told[1] not in range(1, 17):
                return [-1]
            self.k, self.state = told[1], (0,) * told[0]
            return [0]
        lanes, marks, row = range(len(self.state)), range(self.k), told[0] if told else []
        if place == SET:
            if len(row) != len(lanes) or any(v not in marks for v in row):
                return [-1]
            self.state = tuple(row)
            return [0]
        if place == HIT:
            if told[0] not in lanes or told[1] not in marks:
                return [-1]
            self.state = self.state[:told[0]] + (told[1],) + self.state[told[0] + 1:]
            return [0]
        if place == RIGHTS:
            return [len(with_right(self.state)), *with_right(self.state)]
        if place == SETTLED:
            return [int(len(with_right(self.state)) == 1)]
        if place == RUN:
            return self.run(row)
        step = [told[0]] if place == MOVE else row
        if not step or any(i not in lanes for i in step) or step != sorted(set(step)):
            return [-1]
        if not set(step) <= set(with_right(self.state)):
            return [-6]
        self.state = behind(self.state, self.k, step)
        return [self.state[told[0]]] if place == MOVE else self.call(RIGHTS)

    def run(self, row):
        if len(row) > 64 or any(d not in range(1000000001) for d in row):
            return [-1]
        states = [self.state]
        for d in row:
            lanes = with_right(states[-1])
            states.append(behind(states[-1], self.k, [lanes[d % len(lanes)]]))
        self.state = states[-1]
        settled = [i for i, state in enumerate(states) if len(with_right(state)) == 1]
        return [1, settled[0]] if settled else [0]


def states_of(n, k):
    return itertools.product(range(k), repeat=n)


def some(lanes):
    for count in range(1, len(lanes) + 1):
        yield from itertools.combinations(lanes, count)


class AllStatesTest(unittest.TestCase):
    def test_rights_and_settled(self):
        for n, k in SIZES:
            for state in states_of(n, k):
                told = ask((RING, n, k), (SET, list(state)), (RIGHTS,), (SETTLED,))
                lanes = with_right(state)
                self.assertEqual(told[2], [len(lanes), *lanes])
                self.assertEqual(told[3], [int(len(lanes) == 1)])

    def test_some_lane_always_has_the_right(self):
        for n, k in SIZES:
            for state in states_of(n, k):
                self.assertGreaterEqual(ask((RING, n, k), (SET, list(state)), (RIGHTS,))[2][0], 1)

    def test_move_of_every_lane(self):
        for n, k in SIZES:
            for state in states_of(n, k):
                for lane in range(-1, n + 1):
                    self.same([(RING, n, k), (SET, list(state)), (MOVE, lane), (RIGHTS,)])

    def test_together_of_every_step(self):
        for n, k in SIZES:
            for state in states_of(n, k):
                for step in some(range(n)):
                    self.same([(RING, n, k), (SET, list(state)), (TOGETHER, list(step)), (RIGHTS,)])

    def test_a_settled_ring_stays_settled(self):
        for n, k in SIZES:
            for state in states_of(n, k):
                before = ((RING, n, k), (SET, list(state)))
                told = ask(*before, (SETTLED,), (RIGHTS,))
                if told[2] == [1]:
                    lane = told[3][1]
                    self.assertEqual(ask(*before, (MOVE, lane), (SETTLED,))[3], [1])
                    self.assertEqual(ask(*before, (TOGETHER, [lane]), (SETTLED,))[3], [1])
                    self.assertEqual(ask(*before, (RUN, [7, 1000000000, 0]), (SETTLED,))[2:], [[1, 0], [1]])

    def same(self, calls):
        model = Model()
        self.assertEqual(ask(*calls), [model.call(*call) for call in calls], calls)


class LongLinesTest(unittest.TestCase):
    def number(self, source, good):
        if source.random() < 0.04:
            return source.choice((-1, -2, good, good + 1, 16, 1000000000, 1000000001, HUGE, -HUGE))
        return source.randrange(good)

    def row_for(self, source, place, n, k):
        if source.random() < 0.04:
            return [self.number(source, n) for at in range(source.choice((0, 1, n - 1, n + 1, 64, 65, 100)))]
        if place == SET:
            return [self.number(source, k) for lane in range(n)]
        if place == TOGETHER:
            return sorted(source.sample(range(n), source.choice((1, 1, 2))))
        return [self.number(source, 1000000001) for at in range(source.choice((0, 1, 2, 5, 9)))]

    def call_for(self, source, n, k):
        place = source.choice((SET, SET, HIT, HIT, RIGHTS, MOVE, MOVE, TOGETHER, TOGETHER, RUN, SETTLED))
        if place in (SET, TOGETHER, RUN):
            return (place, self.row_for(source, place, n, k))
        if place == HIT:
            return (place, self.number(source, n), self.number(source, k))
        return (place, self.number(source, n)) if place == MOVE else (place,)

    def test_as_the_model(self):
        seen = {}
        for seed in range(300):
            source = random.Random(seed)
            model = Model()
            calls = []
            n, k = 3, 3
            for at in range(source.randrange(1, 121)):
                if at == 2 or source.random() < 0.02:
                    n, k = source.randrange(2, 7), source.randrange(1, 17)
                    calls.append((RING, n, k))
                else:
                    calls.append(self.call_for(source, n, k))
            wanted = [model.call(*call) for call in calls]
            handed = flat(calls)
            self.assertEqual(answers(handed), flat([(answer,) for answer in wanted]), calls)
            self.assertEqual(handed, flat(calls))
            for call, answer in zip(calls, wanted):
                seen[call[0], min(answer[0], 0)] = True
        refusals = {RING: (), SET: (-2, -1), HIT: (-2, -1), RIGHTS: (-2,), MOVE: (-2, -1, -6),
                    TOGETHER: (-2, -1, -6), RUN: (-2, -1), SETTLED: (-2,)}
        for place in refusals:
            for refusal in (0, *refusals[place]):
                self.assertIn((place, refusal), seen)


if __name__ == "__main__":
    unittest.main()
