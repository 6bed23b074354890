"""Promises 3 to 7: rights, move, together, run, settled."""

import unittest

from helper import HUGE, MOVE, RIGHTS, RING, RUN, SET, SETTLED, TOGETHER, ask, counters, last, moved


class RightsTest(unittest.TestCase):
    def test_who_has_the_right(self):
        for n, k, row, lanes in (
            (2, 1, [0, 0], [0]),
            (2, 2, [0, 1], [1]),
            (2, 16, [15, 15], [0]),
            (3, 4, [0, 1, 2], [1, 2]),
            (3, 4, [0, 1, 0], [0, 1, 2]),
            (3, 4, [1, 1, 0], [2]),
            (3, 4, [1, 0, 0], [1]),
            (6, 16, [0, 15, 0, 15, 0, 15], [1, 2, 3, 4, 5]),
            (6, 16, [0, 15, 0, 15, 0, 0], [0, 1, 2, 3, 4]),
        ):
            told = ask((RING, n, k), (SET, row), (RIGHTS,), (SETTLED,))
            self.assertEqual(told[2], [len(lanes)] + lanes)
            self.assertEqual(told[3], [1 if len(lanes) == 1 else 0])

    def test_no_ring(self):
        self.assertEqual(ask((RIGHTS,), (SETTLED,)), [[-2], [-2]])

    def test_they_change_nothing(self):
        calls = ((RING, 3, 4), (SET, [3, 1, 3]))
        asked = (*calls, (RIGHTS,), (SETTLED,), (RIGHTS,), (SETTLED,))
        self.assertEqual(ask(*asked)[2:], [[3, 0, 1, 2], [0], [3, 0, 1, 2], [0]])
        self.assertEqual(counters(asked, 3, 4), [3, 1, 3])


class MoveTest(unittest.TestCase):
    def test_lane_0_counts_on(self):
        calls = ((RING, 3, 4), (SET, [1, 3, 1]), (MOVE, 0))
        self.assertEqual(last(*calls), [2])
        self.assertEqual(counters(calls, 3, 4), [2, 3, 1])

    def test_lane_0_has_0_behind_the_greatest(self):
        for k in range(1, 17):
            row = [k - 1] * 4
            calls = ((RING, 4, k), (SET, row), (MOVE, 0))
            self.assertEqual(last(*calls), [0])
            self.assertEqual(counters(calls, 4, k), [0] + row[1:])

    def test_another_lane_gets_the_counter_before_it(self):
        row = [4, 9, 15, 0, 3, 11]
        for lane in range(1, 6):
            calls = ((RING, 6, 16), (SET, row), (MOVE, lane))
            wanted = list(row)
            wanted[lane] = row[lane - 1]
            self.assertEqual(last(*calls), [row[lane - 1]])
            self.assertEqual(counters(calls, 6, 16), wanted)

    def test_one_counter(self):
        self.assertEqual(ask((RING, 2, 1), (MOVE, 0), (MOVE, 0), (MOVE, 1), (RIGHTS,)), [[0], [0], [0], [-6], [1, 0]])

    def test_no_ring_comes_first(self):
        self.assertEqual(ask((MOVE, 0), (MOVE, -1), (MOVE, HUGE), (RING, 2, 2)), [[-2], [-2], [-2], [0]])

    def test_no_lane(self):
        before = ((RING, 3, 4), (SET, [1, 2, 1]))
        for wrong in (-1, 3, -3, 6, 1000000000, HUGE, -HUGE):
            self.assertEqual(last(*before, (MOVE, wrong)), [-1])
            self.assertEqual(counters((*before, (MOVE, wrong)), 3, 4), [1, 2, 1])

    def test_without_the_right(self):
        for row, lane in (([1, 2, 3], 0), ([1, 1, 3], 1), ([1, 3, 3], 2)):
            calls = ((RING, 3, 4), (SET, row), (MOVE, lane))
            self.assertEqual(last(*calls), [-6])
            self.assertEqual(counters(calls, 3, 4), row)

    def test_the_right_goes_round(self):
        calls = [(RING, 3, 2)]
        for lane in (0, 1, 2) * 3:
            self.assertEqual(ask(*calls, (RIGHTS,), (SETTLED,))[-2:], [[1, lane], [1]])
            calls.append((MOVE, lane))


class TogetherTest(unittest.TestCase):
    def test_each_looks_at_the_counters_as_they_were(self):
        calls = ((RING, 3, 4), (SET, [3, 1, 3]), (TOGETHER, [0, 1, 2]))
        self.assertEqual(counters(calls, 3, 4), [0, 3, 1])
        self.assertEqual(last(*calls), [2, 1, 2])

    def test_all_of_six(self):
        calls = ((RING, 6, 16), (SET, [15, 1, 2, 3, 4, 15]), (TOGETHER, [0, 1, 2, 3, 4, 5]))
        self.assertEqual(counters(calls, 6, 16), [0, 15, 1, 2, 3, 4])
        self.assertEqual(last(*calls), [5, 1, 2, 3, 4, 5])

    def test_some_of_them(self):
        calls = ((RING, 4, 5), (SET, [0, 1, 2, 3]), (TOGETHER, [1, 3]))
        self.assertEqual(counters(calls, 4, 5), [0, 0, 2, 2])
        self.assertEqual(last(*calls), [1, 2])

    def test_one_alone_is_a_move(self):
        calls = ((RING, 2, 1), (TOGETHER, [0]))
        self.assertEqual(last(*calls), [1, 0])
        calls = ((RING, 2, 2), (TOGETHER, [0]), (TOGETHER, [1]))
        self.assertEqual(ask(*calls)[1:], [[1, 1], [1, 0]])
        self.assertEqual(counters(calls, 2, 2), [1, 1])

    def test_no_ring_comes_first(self):
        for row in ([], [0], [-1], [1, 0], [0] * 100):
            self.assertEqual(ask((TOGETHER, row)), [[-2]])

    def test_a_row_that_is_not_as_told(self):
        before = ((RING, 3, 4), (SET, [1, 2, 1]))
        for row in ([], [-1], [3], [0, 3], [-1, 0], [0, 0], [1, 0], [0, 2, 1], [0, 1, 1], [2, 1, 0], [0, 1, 2, 3],
                    [0, 1, 2, 2], [1000000000], [HUGE], [-HUGE], [0, HUGE], [-HUGE, 0],
                    [0] * 64, [0] * 65, [0] * 100, list(range(100))):
            self.assertEqual(last(*before, (TOGETHER, row)), [-1], row)
            self.assertEqual(counters((*before, (TOGETHER, row)), 3, 4), [1, 2, 1])

    def test_one_without_the_right(self):
        before = ((RING, 4, 5), (SET, [1, 2, 2, 3]))
        for row in ([0], [2], [0, 1], [1, 2], [2, 3], [0, 3], [0, 1, 3], [0, 1, 2, 3]):
            self.assertEqual(last(*before, (TOGETHER, row)), [-6], row)
            self.assertEqual(counters((*before, (TOGETHER, row)), 4, 5), [1, 2, 2, 3])

    def test_out_of_range_ahead_of_without_the_right(self):
        before = ((RING, 4, 5), (SET, [1, 2, 2, 3]))
        for row in ([0, 4], [2, 0], [0, 0], [-1, 0], [0, 2, HUGE]):
            self.assertEqual(last(*before, (TOGETHER, row)), [-1], row)


class RunTest(unittest.TestCase):
    def test_the_number_is_taken_mod_how_many_have_the_right(self):
        row = [0, 1, 2, 0]  # lanes 0 to 3 have the right
        for draw, wanted in ((0, [1, 1, 2, 0]), (1, [0, 0, 2, 0]), (2, [0, 1, 1, 0]), (3, [0, 1, 2, 2]),
                             (4, [1, 1, 2, 0]), (7, [0, 1, 2, 2]), (1000000000, [1, 1, 2, 0]), (999999999, [0, 1, 2, 2])):
            calls = ((RING, 4, 5), (SET, row), (RUN, [draw]))
            self.assertEqual(counters(calls, 4, 5), wanted, draw)

    def test_counted_among_those_with_the_right(self):
        calls = ((RING, 4, 5), (SET, [0, 0, 1, 2]), (RUN, [1]))  # lanes 2 and 3
        self.assertEqual(counters(calls, 4, 5), [0, 0, 1, 1])
        self.assertEqual(last(*calls), [1, 1])

    def test_no_move(self):
        self.assertEqual(ask((RING, 3, 3), (RUN, []), (SET, [0, 1, 2]), (RUN, [])), [[0], [1, 0], [0], [0]])

    def test_settled_at_the_beginning(self):
        calls = ((RING, 2, 3), (RUN, [0, 5, 0]))
        self.assertEqual(last(*calls), [1, 0])
        self.assertEqual(counters(calls, 2, 3), [2, 1])

    def test_settled_by_the_last_move(self):
        calls = ((RING, 3, 4), (SET, [0, 1, 2]), (RUN, [0]))
        self.assertEqual(last(*calls), [1, 1])
        self.assertEqual(counters(calls, 3, 4), [0, 0, 2])

    def test_the_moves_behind_the_settling_one_are_made(self):
        calls = ((RING, 3, 4), (SET, [0, 1, 2]), (RUN, [0, 0, 0, 0]))
        self.assertEqual(last(*calls), [1, 1])
        self.assertEqual(counters(calls, 3, 4), [1, 1, 0])

    def test_settled_in_the_midst(self):
        calls = ((RING, 4, 5), (SET, [0, 1, 2, 3]), (RUN, [2, 1, 0, 0]))
        # 0 1 2 2, then 0 1 1 2, then 0 0 1 2, then 0 0 0 2
        self.assertEqual(counters(calls, 4, 5), [0, 0, 0, 2])
        self.assertEqual(last(*calls), [1, 4])
        self.assertEqual(last((RING, 4, 5), (SET, [0, 1, 2, 3]), (RUN, [2, 1, 0])), [0])

    def test_never_settled_is_0_alone(self):
        calls = ((RING, 6, 2), (SET, [0, 1, 0, 1, 0, 1]), (RUN, [4, 3]))
        self.assertEqual(last(*calls), [0])
        self.assertEqual(counters(calls, 6, 2), [0, 1, 0, 0, 0, 0])

    def test_64_moves(self):
        calls = ((RING, 6, 16), (RUN, [1000000000] * 64))
        self.assertEqual(last(*calls), [1, 0])
        # 10 rounds of six moves, and lanes 0 to 3 once more
        self.assertEqual(counters(calls, 6, 16), [11, 11, 11, 11, 10, 10])

    def test_no_ring_comes_first(self):
        for row in ([], [0], [-1], [1000000001], [0] * 100):
            self.assertEqual(ask((RUN, row)), [[-2]])

    def test_a_row_that_is_not_as_told(self):
        before = ((RING, 3, 4), (SET, [1, 2, 1]))
        for row in ([0] * 65, [0] * 100, [-1], [1000000001], [HUGE], [-HUGE], [0, -1], [0, 0, 1000000001], [0] * 63 + [-1]):
            self.assertEqual(last(*before, (RUN, row)), [-1])
            self.assertEqual(counters((*before, (RUN, row)), 3, 4), [1, 2, 1])


class HowOftenEachMovedTest(unittest.TestCase):
    BEFORE = ((RING, 3, 4), (SET, [3, 1, 3]))

    def test_move_counts_its_lane(self):
        self.assertEqual(moved(*self.BEFORE, (MOVE, 2)), [0, 0, 1])
        self.assertEqual(moved(*self.BEFORE, (MOVE, 0), (MOVE, 1), (MOVE, 2)), [1, 1, 1])
        self.assertEqual(moved((RING, 2, 1), (MOVE, 0), (MOVE, 0)), [2, 0])

    def test_together_counts_each_lane(self):
        self.assertEqual(moved(*self.BEFORE, (TOGETHER, [0, 2])), [1, 0, 1])

    def test_run_counts_each_move(self):
        calls = (*self.BEFORE, (RUN, [0, 0, 0]))
        self.assertEqual(counters(calls, 3, 4), [0, 0, 0])
        self.assertEqual(moved(*calls), [1, 1, 1])
        self.assertEqual(moved((RING, 6, 16), (RUN, [1000000000] * 64)), [11, 11, 11, 11, 10, 10])

    def test_refusals_count_nothing(self):
        before = (*self.BEFORE, (MOVE, 1))
        for refused, answer in (((RUN, [0, -1]), [-1]), ((RUN, [0] * 65), [-1]), ((TOGETHER, [2, 0]), [-1]),
                                ((TOGETHER, [0, 1]), [-6]), ((MOVE, -1), [-1]), ((MOVE, 1), [-6])):
            self.assertEqual(last(*before, refused), answer)
            self.assertEqual(moved(*before, refused), [0, 1, 0])


if __name__ == "__main__":
    unittest.main()
