"""Promises 14 and 15: turns, state; and that the calls 3 and from 7 on change nothing."""

import unittest

from helper import (ENDLESS, HIT, HUGE, LEAST_COUNTERS, MOVE, OVER_STATES, REPAIR, RIGHTS, RING, RUN, SCHEDULE, SET,
                    SETTLED, STATE, TOGETHER, TURNS, WORST, WORST_OF_ALL, ask, counters, last)

# Each call that changes nothing, answered or refused.
ASKING = [(RIGHTS,), (SETTLED,), (TURNS,), (STATE,)]
ASKING += [(place, mode) for place in OVER_STATES for mode in (0, 1, -1, 2, HUGE)]
ASKING += [(LEAST_COUNTERS, n, mode) for n in (1, 2, 3, 4, 5) for mode in (0, 1, 2)]


class TurnsAndStateTest(unittest.TestCase):
    def check(self, calls, n, k, row, turns):
        told = ask(*calls, (TURNS,), (STATE,))
        self.assertEqual(told[-2], [n, *turns], calls)
        self.assertEqual(told[-1], [n, k, n, *row, n, *turns], calls)
        self.assertEqual(counters(calls, n, k), row)

    def test_no_ring(self):
        self.assertEqual(ask((TURNS,), (STATE,), (RING, 7, 1), (TURNS,), (STATE,)), [[-2], [-2], [-1], [-2], [-2]])
        self.assertEqual(ask((LEAST_COUNTERS, 2, 0), (TURNS,), (STATE,)), [[2], [-2], [-2]])

    def test_behind_ring(self):
        for n in range(2, 7):
            for k in range(1, 17):
                self.assertEqual(ask((RING, n, k), (TURNS,), (STATE,))[1:],
                                 [[n] + [0] * n, [n, k, n] + [0] * n + [n] + [0] * n])

    def test_behind_set(self):
        self.check([(RING, 4, 9), (SET, [8, 0, 3, 3])], 4, 9, [8, 0, 3, 3], [0, 0, 0, 0])
        self.check([(RING, 2, 3), (MOVE, 0), (MOVE, 1), (SET, [2, 0])], 2, 3, [2, 0], [0, 0])

    def test_behind_hit(self):
        self.check([(RING, 3, 4), (HIT, 1, 3)], 3, 4, [0, 3, 0], [0, 0, 0])
        self.check([(RING, 3, 4), (MOVE, 0), (MOVE, 1), (HIT, 0, 2)], 3, 4, [2, 1, 0], [1, 1, 0])

    def test_behind_move(self):
        calls = [(RING, 3, 2)]
        turns, row = [0, 0, 0], [0, 0, 0]
        for lane in (0, 1, 2) * 4:
            calls.append((MOVE, lane))
            turns[lane] += 1
            row[lane] = 1 - row[lane]
            self.check(calls, 3, 2, row, turns)

    def test_a_move_that_leaves_the_counter_is_counted(self):
        self.check([(RING, 2, 1), (MOVE, 0), (TOGETHER, [0]), (RUN, [5, 6])], 2, 1, [0, 0], [4, 0])

    def test_behind_together(self):
        calls = [(RING, 4, 3), (SET, [0, 2, 1, 0]), (TOGETHER, [0, 1, 2, 3])]
        self.check(calls, 4, 3, [1, 0, 2, 1], [1, 1, 1, 1])
        self.check([*calls, (TOGETHER, [1, 3])], 4, 3, [1, 1, 2, 2], [1, 2, 1, 2])

    def test_behind_run(self):
        self.check([(RING, 3, 4), (SET, [0, 1, 2]), (RUN, [0, 0, 0, 0])], 3, 4, [1, 1, 0], [1, 2, 1])
        self.check([(RING, 3, 4), (SET, [0, 1, 2]), (RUN, [])], 3, 4, [0, 1, 2], [0, 0, 0])
        # 21 rounds of six moves, and lanes 0 and 1 once more
        self.check([(RING, 6, 16), (RUN, [0] * 64), (RUN, [9] * 64)], 6, 16, [6, 6, 5, 5, 5, 5],
                   [22, 22, 21, 21, 21, 21])

    def test_behind_a_second_ring(self):
        self.check([(RING, 3, 4), (SET, [0, 1, 2]), (MOVE, 1), (RING, 5, 2)], 5, 2, [0] * 5, [0] * 5)
        self.check([(RING, 3, 4), (SET, [0, 1, 2]), (MOVE, 1), (RING, 3, 4)], 3, 4, [0] * 3, [0] * 3)

    def test_behind_refused_calls(self):
        before = [(RING, 3, 4), (SET, [3, 1, 3]), (MOVE, 1)]
        for refused, answer in (
            ((RING, 1, 4), -1), ((RING, 3, 17), -1), ((SET, []), -1), ((SET, [0, 0]), -1), ((SET, [0, 4, 0]), -1),
            ((HIT, 3, 0), -1), ((HIT, 0, -1), -1), ((MOVE, 3), -1), ((MOVE, 1), -6), ((MOVE, HUGE), -1),
            ((TOGETHER, []), -1), ((TOGETHER, [2, 0]), -1), ((TOGETHER, [0, 1]), -6), ((TOGETHER, [0, 1, 2]), -6),
            ((RUN, [0, 0, -1]), -1), ((RUN, [0] * 65), -1), ((WORST, 2), -1), ((LEAST_COUNTERS, 5, 0), -1),
        ):
            self.assertEqual(last(*before, refused), [answer], refused)
            self.check([*before, refused], 3, 4, [3, 3, 3], [0, 1, 0])


class ChangeNothingTest(unittest.TestCase):
    def test_each_of_them(self):
        for before in (
            [(RING, 2, 1), (MOVE, 0)],
            [(RING, 3, 3), (SET, [0, 1, 0]), (TOGETHER, [0, 1, 2])],
            [(RING, 3, 2), (SET, [0, 1, 0]), (TOGETHER, [0, 1, 2])],
            [(RING, 4, 4), (SET, [0, 2, 1, 0]), (MOVE, 0), (MOVE, 3)],
            [(RING, 5, 2), (SET, [0, 0, 0, 1, 0]), (MOVE, 0)],
            [(RING, 6, 2), (MOVE, 0), (MOVE, 1)],
            [(RING, 6, 16), (SET, [0, 1, 0, 1, 0, 0]), (MOVE, 0)],
        ):
            state = last(*before, (STATE,))
            self.assertGreater(sum(last(*before, (TURNS,))[1:]), 0)
            for call in ASKING:
                self.assertEqual(last(*before, call, (STATE,)), state, call)
                self.assertEqual(last(*before, call, call), last(*before, call), call)

    def test_all_of_them_in_turn(self):
        before = [(RING, 3, 3), (SET, [0, 1, 0]), (TOGETHER, [0, 1, 2])]
        told = ask(*before, *ASKING, *reversed(ASKING), *ASKING)[len(before):]
        for at, call in enumerate(ASKING):
            self.assertEqual(told[at], last(*before, call), call)
            self.assertEqual(told[2 * len(ASKING) - 1 - at], told[at], call)
            self.assertEqual(told[2 * len(ASKING) + at], told[at], call)

    def test_the_schedules_are_not_made(self):
        self.assertEqual(ask((RING, 3, 3), (SET, [0, 1, 0]), (SCHEDULE, 1), (RIGHTS,), (TURNS,))[3:],
                         [[3, 0, 1, 2], [3, 0, 0, 0]])
        self.assertEqual(ask((RING, 3, 2), (SET, [0, 1, 0]), (ENDLESS, 1), (STATE,))[3], [3, 2, 3, 0, 1, 0, 3, 0, 0, 0])
        self.assertEqual(ask((RING, 3, 3), (REPAIR, 1), (WORST_OF_ALL, 1), (STATE,))[3], [3, 3, 3, 0, 0, 0, 3, 0, 0, 0])


if __name__ == "__main__":
    unittest.main()
