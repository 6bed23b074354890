"""Promises 0 to 2: ring, set, hit."""

import unittest

from helper import HIT, HUGE, MOVE, RIGHTS, RING, SET, SETTLED, TOGETHER, ask, counters, last, moved


class RingTest(unittest.TestCase):
    def test_every_size_is_made_with_counters_zero(self):
        for n in range(2, 7):
            for k in range(1, 17):
                calls = ((RING, n, k),)
                self.assertEqual(ask(*calls), [[0]])
                self.assertEqual(counters(calls, n, k), [0] * n)
                self.assertEqual(ask(*calls, (RIGHTS,), (SETTLED,))[1:], [[1, 0], [1]])

    def test_n_out_of_range(self):
        for n in (1, 7, 0, -1, -2, 1000000000, HUGE, -HUGE):
            self.assertEqual(ask((RING, n, 4), (SETTLED,)), [[-1], [-2]])

    def test_k_out_of_range(self):
        for k in (0, 17, -1, 1000000000, HUGE, -HUGE):
            self.assertEqual(ask((RING, 4, k), (SETTLED,)), [[-1], [-2]])

    def test_both_out_of_range(self):
        self.assertEqual(ask((RING, 7, 0)), [[-1]])

    def test_a_refused_ring_leaves_the_old_one(self):
        before = ((RING, 3, 4), (SET, [3, 1, 2]))
        for refused in ((RING, 7, 4), (RING, 1, 4), (RING, 4, 17), (RING, 4, 0)):
            self.assertEqual(last(*before, refused), [-1])
            self.assertEqual(counters((*before, refused), 3, 4), [3, 1, 2])

    def test_a_second_ring_takes_the_place_of_the_first(self):
        calls = ((RING, 3, 4), (SET, [3, 1, 2]), (RING, 5, 2))
        self.assertEqual(last(*calls), [0])
        self.assertEqual(counters(calls, 5, 2), [0] * 5)
        self.assertEqual(last(*calls, (HIT, 4, 1)), [0])
        self.assertEqual(last(*calls, (HIT, 4, 2)), [-1])
        self.assertEqual(counters(((RING, 3, 4), (SET, [3, 1, 2]), (RING, 3, 4)), 3, 4), [0, 0, 0])


class SetTest(unittest.TestCase):
    def test_the_counters_are_those(self):
        for n, k, row in ((2, 1, [0, 0]), (2, 16, [15, 0]), (3, 4, [3, 0, 1]), (6, 16, [15, 0, 7, 15, 15, 0])):
            calls = ((RING, n, k), (SET, row))
            self.assertEqual(last(*calls), [0])
            self.assertEqual(counters(calls, n, k), row)

    def test_no_ring_comes_first(self):
        for row in ([], [0, 0], [-1, 0], [0] * 100):
            self.assertEqual(ask((SET, row), (RING, 2, 3), (RIGHTS,)), [[-2], [0], [1, 0]])

    def test_not_n_numbers(self):
        for count in (0, 1, 2, 4, 5, 6, 64, 65, 100):
            calls = ((RING, 3, 4), (SET, [1, 2, 3]), (SET, [0] * count))
            self.assertEqual(last(*calls), [-1])
            self.assertEqual(counters(calls, 3, 4), [1, 2, 3])

    def test_no_counter(self):
        for lane in range(3):
            for wrong in (-1, 4, 1000000000, HUGE, -HUGE):
                row = [0, 0, 0]
                row[lane] = wrong
                calls = ((RING, 3, 4), (SET, [1, 2, 3]), (SET, row))
                self.assertEqual(last(*calls), [-1])
                self.assertEqual(counters(calls, 3, 4), [1, 2, 3])

    def test_k_is_the_edge(self):
        self.assertEqual(ask((RING, 2, 1), (SET, [0, 0]), (SET, [0, 1]), (SET, [1, 0])), [[0], [0], [-1], [-1]])
        self.assertEqual(ask((RING, 2, 16), (SET, [15, 15]), (SET, [16, 0])), [[0], [0], [-1]])


class HitTest(unittest.TestCase):
    def test_that_lane_has_that_counter_and_the_others_theirs(self):
        for lane in range(6):
            for counter in (0, 7, 15):
                calls = ((RING, 6, 16), (SET, [1, 2, 3, 4, 5, 6]), (HIT, lane, counter))
                row = [1, 2, 3, 4, 5, 6]
                row[lane] = counter
                self.assertEqual(last(*calls), [0])
                self.assertEqual(counters(calls, 6, 16), row)

    def test_a_lane_without_the_right_is_hit_too(self):
        calls = ((RING, 3, 4), (HIT, 2, 3))
        self.assertEqual(counters(calls, 3, 4), [0, 0, 3])

    def test_no_ring_comes_first(self):
        self.assertEqual(ask((HIT, 0, 0), (HIT, -1, HUGE), (RING, 2, 2)), [[-2], [-2], [0]])

    def test_out_of_range(self):
        before = ((RING, 3, 4), (SET, [1, 2, 3]))
        for wrong in (-1, HUGE, -HUGE, 1000000000):
            for refused in ((HIT, wrong, 0), (HIT, 0, wrong), (HIT, wrong, wrong)):
                self.assertEqual(last(*before, refused), [-1])
                self.assertEqual(counters((*before, refused), 3, 4), [1, 2, 3])
        self.assertEqual(ask(*before, (HIT, 3, 0), (HIT, 0, 4), (HIT, 2, 3)), [[0], [0], [-1], [-1], [0]])


class NobodyHasMovedTest(unittest.TestCase):
    MOVED = ((RING, 3, 4), (SET, [0, 1, 2]), (TOGETHER, [1, 2]), (MOVE, 2))

    def test_they_have_moved(self):
        self.assertEqual(ask(*self.MOVED)[2:], [[1, 2], [0]])
        self.assertEqual(moved(*self.MOVED), [0, 1, 2])

    def test_a_new_ring(self):
        for n in range(2, 7):
            self.assertEqual(moved((RING, n, 4)), [0] * n)
            self.assertEqual(moved(*self.MOVED, (RING, n, 4)), [0] * n)

    def test_set_begins_anew(self):
        self.assertEqual(moved(*self.MOVED, (SET, [0, 0, 0])), [0] * 3)

    def test_hit_is_no_move(self):
        self.assertEqual(moved(*self.MOVED, (HIT, 1, 3)), [0, 1, 2])
        self.assertEqual(moved((RING, 3, 4), (HIT, 1, 3), (HIT, 0, 0)), [0] * 3)

    def test_refusals_change_nothing(self):
        for refused in ((RING, 7, 4), (RING, 3, 0), (SET, [0, 0, 4]), (SET, []), (SET, [0] * 4), (HIT, 3, 0),
                        (HIT, 0, 4), (MOVE, 3)):
            self.assertEqual(last(*self.MOVED, refused), [-1])
            self.assertEqual(moved(*self.MOVED, refused), [0, 1, 2])


if __name__ == "__main__":
    unittest.main()
