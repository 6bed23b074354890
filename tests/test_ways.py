"""Promises 8 to 13: worst, worst of all, schedule, endless, repair, least counters."""

import unittest

from helper import (ENDLESS, HIT, HUGE, LEAST_COUNTERS, MOVE, OVER_STATES, REPAIR, RING, SCHEDULE, SET, STATE, WORST,
                    WORST_OF_ALL, ask, last)
from rightring.states import counters_of, number_of
from rightring.ways import steps_among

NO_MODES = (-1, 2, 3, 10, 1000000000, HUGE, -HUGE)

# For each n that can have too many states the greatest k with which it hasn't.
MOST_STATES = ((3, 7), (4, 4), (5, 3), (6, 2))


def told(n, k, row, *call):
    """The answer to the call in a ring of these counters."""
    return last((RING, n, k), (SET, row), call)


class RefusalsTest(unittest.TestCase):
    """What worst, worst of all, schedule, endless and repair refuse alike."""

    def test_no_ring_comes_first(self):
        for place in OVER_STATES:
            for mode in (0, 1, *NO_MODES):
                self.assertEqual(ask((place, mode), (RING, 1, 1), (place, mode)), [[-2], [-1], [-2]])

    def test_no_mode(self):
        for place in OVER_STATES:
            for mode in NO_MODES:
                self.assertEqual(told(3, 3, [0, 0, 0], place, mode), [-1])

    def test_no_mode_ahead_of_all_that_follows(self):
        for place in OVER_STATES:
            for mode in NO_MODES:
                self.assertEqual(told(6, 16, [0, 1, 0, 1, 0, 0], place, mode), [-1])  # too many states
                self.assertEqual(told(4, 2, [0, 0, 0, 0], place, mode), [-1])  # ways that don't end, or that do
                self.assertEqual(told(4, 2, [0, 1, 0, 0], place, mode), [-1])  # not settled

    def test_too_many_states(self):
        for n, k in MOST_STATES:
            for place in OVER_STATES:
                for mode in (0, 1):
                    self.assertEqual(told(n, k + 1, [0] * n, place, mode), [-8])
                    self.assertNotEqual(told(n, k, [0] * n, place, mode), [-8])
        for place in OVER_STATES:
            self.assertNotEqual(told(2, 16, [0, 0], place, 0), [-8])
            for n in (3, 4, 5, 6):
                self.assertEqual(told(n, 16, [0] * n, place, 1), [-8])

    def test_too_many_states_ahead_of_not_settled_and_of_the_ways(self):
        for place in OVER_STATES:
            for mode in (0, 1):
                self.assertEqual(told(6, 3, [0, 1, 0, 1, 0, 0], place, mode), [-8])
                self.assertEqual(told(5, 4, [0, 1, 2, 3, 0], place, mode), [-8])


class WorstTest(unittest.TestCase):
    def test_a_settled_state(self):
        for n, k, row in ((2, 1, [0, 0]), (2, 16, [3, 9]), (3, 7, [1, 1, 0]), (6, 1, [0] * 6), (4, 3, [2, 0, 0, 0]),
                          (6, 2, [1, 1, 1, 0, 0, 0])):
            for mode in (0, 1):
                self.assertEqual(told(n, k, row, WORST, mode), [0])

    def test_one_lane_at_a_time(self):
        self.assertEqual(told(3, 2, [0, 1, 0], WORST, 0), [1])  # whoever moves, it is settled
        self.assertEqual(told(3, 3, [0, 2, 0], WORST, 0), [2])  # 1 2 0, then 1 1 0
        self.assertEqual(told(3, 3, [0, 1, 0], WORST, 0), [1])
        self.assertEqual(told(3, 3, [1, 2, 0], WORST, 0), [1])
        self.assertEqual(told(3, 7, [0, 2, 0], WORST, 0), [2])
        self.assertEqual(told(4, 4, [0, 2, 1, 0], WORST, 0), [13])

    def test_any_number_of_lanes_at_once(self):
        self.assertEqual(told(3, 3, [0, 1, 0], WORST, 1), [3])  # 1 0 1, then 2 0 1, then 2 2 1
        self.assertEqual(told(3, 3, [0, 2, 0], WORST, 1), [2])
        self.assertEqual(told(4, 4, [0, 2, 1, 0], WORST, 1), [13])

    def test_ways_that_do_not_end(self):
        self.assertEqual(told(3, 2, [0, 1, 0], WORST, 1), [-7])  # all three, again and again
        self.assertEqual(told(4, 3, [0, 2, 1, 0], WORST, 1), [-7])
        self.assertEqual(told(4, 3, [0, 2, 1, 0], WORST, 0), [13])
        for mode in (0, 1):
            self.assertEqual(told(4, 2, [0, 1, 0, 0], WORST, mode), [-7])
            self.assertEqual(told(6, 2, [0, 1, 0, 1, 0, 1], WORST, mode), [-7])

    def test_a_way_though_others_have_none(self):
        self.assertEqual(told(3, 2, [0, 0, 0], WORST, 1), [0])
        self.assertEqual(told(4, 3, [0, 0, 1, 2], WORST, 1), [1])
        self.assertEqual(told(5, 3, [0, 0, 0, 1, 0], WORST, 0), [11])

    def test_the_state_as_it_is(self):
        calls = ((RING, 3, 3), (WORST, 0), (SET, [0, 2, 0]), (WORST, 0), (MOVE, 0), (WORST, 0), (MOVE, 1), (WORST, 0),
                 (HIT, 1, 2), (WORST, 0), (WORST, 1), (RING, 4, 4), (WORST, 0), (SET, [0, 2, 1, 0]), (WORST, 0))
        answered = [answer for call, answer in zip(calls, ask(*calls)) if call[0] == WORST]
        self.assertEqual(answered, [[0], [2], [1], [0], [1], [1], [0], [13]])


class WorstOfAllTest(unittest.TestCase):
    def test_the_greatest_and_the_state_of_least_number(self):
        for n, k, mode, wanted in (
            (2, 1, 0, [0, 2, 0, 0]),
            (2, 16, 1, [0, 2, 0, 0]),
            (6, 1, 1, [0, 6, 0, 0, 0, 0, 0, 0]),
            (3, 2, 0, [1, 3, 0, 1, 0]),
            (3, 3, 0, [2, 3, 0, 2, 0]),
            (3, 3, 1, [3, 3, 0, 1, 0]),
            (3, 7, 0, [2, 3, 0, 2, 0]),
            (3, 7, 1, [3, 3, 0, 1, 0]),
            (4, 3, 0, [13, 4, 0, 2, 1, 0]),
            (4, 4, 0, [13, 4, 0, 2, 1, 0]),
            (4, 4, 1, [13, 4, 0, 2, 1, 0]),
        ):
            self.assertEqual(last((RING, n, k), (WORST_OF_ALL, mode)), wanted)

    def test_whatever_the_present_state_is(self):
        for row in ([0, 0, 0], [2, 1, 2], [1, 0, 1], [0, 1, 2]):
            self.assertEqual(told(3, 3, row, WORST_OF_ALL, 0), [2, 3, 0, 2, 0])
            self.assertEqual(told(3, 3, row, WORST_OF_ALL, 1), [3, 3, 0, 1, 0])

    def test_some_state_has_none(self):
        for n, k, mode in ((3, 2, 1), (4, 2, 0), (4, 2, 1), (4, 3, 1), (5, 2, 0), (5, 3, 0), (5, 3, 1), (6, 2, 0)):
            self.assertEqual(ask((RING, n, k), (WORST, mode), (WORST_OF_ALL, mode)), [[0], [0], [-7]])
        self.assertEqual(told(3, 2, [0, 1, 0], WORST_OF_ALL, 1), [-7])


class ScheduleTest(unittest.TestCase):
    def test_a_settled_state(self):
        for n, k, row in ((2, 1, [0, 0]), (2, 16, [3, 9]), (3, 7, [1, 1, 0]), (6, 2, [1, 1, 1, 0, 0, 0])):
            for mode in (0, 1):
                self.assertEqual(told(n, k, row, SCHEDULE, mode), [0])

    def test_one_lane_at_a_time(self):
        self.assertEqual(told(3, 2, [0, 1, 0], SCHEDULE, 0), [1, 1])  # 1, 2 and 4 settle it
        self.assertEqual(told(3, 3, [0, 2, 0], SCHEDULE, 0), [2, 1, 2])
        self.assertEqual(told(3, 3, [1, 2, 0], SCHEDULE, 0), [1, 2])  # 2 and 4 settle it

    def test_the_least_number_that_leaves_the_longest_rest(self):
        # 1 2 1 0, 1 2 1 1, 1 2 2 1, 1 1 2 1, and so on: never the least number of all if that cuts the rest short
        wanted = [13, 1, 8, 4, 2, 1, 8, 4, 2, 1, 8, 4, 2, 4]
        self.assertEqual(told(4, 4, [0, 2, 1, 0], SCHEDULE, 0), wanted)
        self.assertEqual(told(4, 4, [0, 2, 1, 0], SCHEDULE, 1), wanted)
        self.assertEqual(told(4, 3, [0, 2, 1, 0], SCHEDULE, 0), wanted)

    def test_several_lanes_at_once(self):
        self.assertEqual(told(3, 3, [0, 1, 0], SCHEDULE, 1), [3, 7, 1, 2])
        self.assertEqual(told(3, 7, [6, 0, 6], SCHEDULE, 1), [3, 7, 1, 2])

    def test_one_lane_alone_if_its_number_is_less(self):
        self.assertEqual(told(3, 3, [0, 1, 2], SCHEDULE, 1), [1, 2])  # so do 4 and 6
        self.assertEqual(told(4, 4, [0, 0, 1, 2], SCHEDULE, 1), [1, 4])  # so do 8 and 12

    def test_steps_by_their_numbers_and_not_by_how_many_lanes_move(self):
        self.assertEqual([number for number, lanes in steps_among([0, 1, 2, 3, 4, 5], 1)], list(range(1, 64)))
        self.assertEqual(steps_among([0, 2, 3], 1), [(1, [0]), (4, [2]), (5, [0, 2]), (8, [3]), (9, [0, 3]),
                                                     (12, [2, 3]), (13, [0, 2, 3])])
        self.assertEqual(steps_among([0, 2, 5], 0), [(1, [0]), (4, [2]), (32, [5])])

    def test_ways_that_do_not_end(self):
        self.assertEqual(told(3, 2, [0, 1, 0], SCHEDULE, 1), [-7])
        self.assertEqual(told(4, 3, [1, 0, 2, 1], SCHEDULE, 1), [-7])
        for mode in (0, 1):
            self.assertEqual(told(6, 2, [0, 1, 0, 1, 0, 1], SCHEDULE, mode), [-7])

    def test_a_way_though_others_have_none(self):
        self.assertEqual(told(4, 3, [0, 0, 1, 2], SCHEDULE, 1), [1, 4])
        self.assertEqual(told(5, 3, [0, 0, 0, 1, 0], SCHEDULE, 0), [11, 1, 2, 16, 1, 8, 4, 2, 16, 8, 4, 8])


class EndlessTest(unittest.TestCase):
    def test_the_first_state_is_there_again(self):
        self.assertEqual(told(3, 2, [0, 1, 0], ENDLESS, 1), [0, 2, 7, 7])
        self.assertEqual(told(4, 3, [0, 2, 1, 0], ENDLESS, 1), [0, 3, 15, 15, 15])
        for mode in (0, 1):
            self.assertEqual(told(4, 2, [0, 1, 0, 0], ENDLESS, mode), [0, 8, 4, 2, 1, 8, 4, 2, 1, 8])

    def test_a_later_state_is_there_again(self):
        for mode in (0, 1):
            self.assertEqual(told(5, 2, [0, 0, 0, 1, 0], ENDLESS, mode), [1, 11, 1, 2, 16, 1, 8, 4, 2, 16, 1, 8, 4])
            self.assertEqual(told(6, 2, [0, 1, 0, 1, 0, 1], ENDLESS, mode),
                             [1, 13, 2, 32, 1, 2, 16, 8, 4, 32, 1, 2, 16, 8, 4])
            self.assertEqual(told(5, 3, [0, 1, 2, 1, 0], ENDLESS, mode),
                             [1, 16, 2, 1, 16, 8, 4, 2, 1, 16, 8, 4, 2, 1, 16, 8, 4, 2])

    def test_the_state_has_a_longest_way(self):
        for mode in (0, 1):
            for n, k, row in ((2, 1, [0, 0]), (2, 2, [0, 1]), (6, 2, [0] * 6), (3, 3, [0, 1, 0]), (4, 4, [0, 2, 1, 0]),
                              (5, 3, [0, 0, 0, 1, 0]), (4, 3, [0, 0, 1, 2])):
                self.assertEqual(told(n, k, row, ENDLESS, mode), [-7])
        self.assertEqual(told(3, 2, [0, 1, 0], ENDLESS, 0), [-7])
        self.assertEqual(told(4, 3, [0, 2, 1, 0], ENDLESS, 0), [-7])


class RepairTest(unittest.TestCase):
    def test_no_such_state(self):
        for n in range(2, 7):
            for mode in (0, 1):
                self.assertEqual(told(n, 1, [0] * n, REPAIR, mode), [0])

    def test_all_such_states_are_settled(self):
        for k in range(2, 17):
            for mode in (0, 1):
                self.assertEqual(told(2, k, [0, k - 1], REPAIR, mode), [0])

    def test_the_greatest_of_them(self):
        self.assertEqual(told(3, 2, [0, 0, 0], REPAIR, 0), [1])  # 0 1 0
        self.assertEqual(told(3, 3, [0, 0, 0], REPAIR, 0), [2])  # 0 2 0
        self.assertEqual(told(3, 3, [0, 0, 0], REPAIR, 1), [3])  # 0 1 0
        self.assertEqual(told(3, 3, [1, 0, 0], REPAIR, 0), [2])  # 1 0 1
        self.assertEqual(told(3, 3, [0, 1, 1], REPAIR, 0), [1])  # never 0 2 0, which differs in two
        self.assertEqual(told(4, 4, [0, 0, 0, 0], REPAIR, 0), [11])  # 13 of others
        self.assertEqual(told(4, 4, [0, 0, 0, 0], REPAIR, 1), [11])

    def test_not_settled(self):
        for mode in (0, 1):
            self.assertEqual(told(3, 3, [0, 1, 0], REPAIR, mode), [-6])
            self.assertEqual(told(4, 4, [0, 2, 1, 0], REPAIR, mode), [-6])

    def test_not_settled_ahead_of_ways_that_do_not_end(self):
        for mode in (0, 1):
            for row in ([0, 1, 0, 0], [0, 1, 0, 1], [1, 0, 1, 1]):
                self.assertEqual(told(4, 2, row, REPAIR, mode), [-6])
            self.assertEqual(told(6, 2, [0, 1, 0, 1, 0, 1], REPAIR, mode), [-6])

    def test_one_of_them_has_no_way(self):
        self.assertEqual(told(3, 2, [0, 0, 0], REPAIR, 1), [-7])  # 0 1 0
        for mode in (0, 1):
            self.assertEqual(told(4, 2, [1, 1, 0, 0], REPAIR, mode), [-7])
            self.assertEqual(told(6, 2, [0] * 6, REPAIR, mode), [-7])

    def test_those_without_a_way_differ_in_more(self):
        self.assertEqual(ask((RING, 4, 3), (WORST_OF_ALL, 1), (REPAIR, 1)), [[0], [-7], [11]])


class LeastCountersTest(unittest.TestCase):
    WANTED = ((2, 0, 2), (2, 1, 2), (3, 0, 2), (3, 1, 3), (4, 0, 3), (4, 1, 4))

    def test_no_ring_is_needed(self):
        for n, mode, k in self.WANTED:
            self.assertEqual(ask((LEAST_COUNTERS, n, mode), (STATE,)), [[k], [-2]])

    def test_a_ring_stays_as_it_was(self):
        before = ((RING, 6, 16), (SET, [0, 5, 0, 5, 0, 0]), (MOVE, 0), (STATE,))
        for n, mode, k in self.WANTED:
            told_all = ask(*before, (LEAST_COUNTERS, n, mode), (STATE,))
            self.assertEqual(told_all[4], [k])
            self.assertEqual(told_all[5], told_all[3])

    def test_it_is_the_least(self):
        for n, mode, k in self.WANTED:
            self.assertNotEqual(last((RING, n, k), (WORST_OF_ALL, mode)), [-7])
            if k > 2:
                self.assertEqual(last((RING, n, k - 1), (WORST_OF_ALL, mode)), [-7])

    def test_out_of_range(self):
        for before in ((), ((RING, 3, 3),)):
            for n in (1, 5, 6, 0, -1, -2, 1000000000, HUGE, -HUGE):
                for mode in (0, 1, 2):
                    self.assertEqual(last(*before, (LEAST_COUNTERS, n, mode)), [-1])
            for mode in NO_MODES:
                for n in (2, 3, 4):
                    self.assertEqual(last(*before, (LEAST_COUNTERS, n, mode)), [-1])


class NumberOfAStateTest(unittest.TestCase):
    """The least number can't be told from other orders of states by the calls alone."""

    def test_lane_i_counts_k_to_the_power_i(self):
        self.assertEqual(number_of([1, 2, 3], 5), 1 + 2 * 5 + 3 * 25)
        self.assertEqual(number_of([0, 1, 0, 0, 0, 1], 2), 2 + 32)
        self.assertEqual(counters_of(1 + 2 * 5 + 3 * 25, 3, 5), [1, 2, 3])
        self.assertEqual(counters_of(0, 6, 1), [0] * 6)


if __name__ == "__main__":
    unittest.main()
