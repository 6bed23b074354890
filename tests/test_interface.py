"""How the list of calls is read, and what it leaves as it was."""

import contextlib
import io
import unittest

from helper import (ENDLESS, HIT, HUGE, LEAST_COUNTERS, MOVE, REPAIR, RIGHTS, RING, RUN, SCHEDULE, SET, SETTLED, STATE,
                    TOGETHER, TURNS, WORST, WORST_OF_ALL, ask, flat)
from rightring.lanes import answers


class FrozenList(list):
    """Fails on whatever would change it, be it for a while."""

    def refuse(self, *args, **kwargs):
        raise AssertionError("the list that was handed in is changed")

    append = clear = extend = insert = pop = remove = reverse = sort = refuse
    __setitem__ = __delitem__ = __iadd__ = __imul__ = refuse


LONG = flat([(RING, 6, 16), (SET, [15, 0, 15, 0, 15, 0]), (RUN, [3, 1, 4] * 20), (TOGETHER, [0]), (RIGHTS,),
             (MOVE, 0), (SET, [0] * 100), (HIT, 3, 15), (SETTLED,), (RUN, []), (RIGHTS,), (WORST, 0), (STATE,),
             (RING, 3, 2), (REPAIR, 0), (SET, [0, 1, 0]), (WORST, 0), (WORST_OF_ALL, 0), (SCHEDULE, 0), (ENDLESS, 1),
             (MOVE, 1), (REPAIR, 0), (LEAST_COUNTERS, 4, 1), (TURNS,), (STATE,)])


class InterfaceTest(unittest.TestCase):
    def test_the_answers_number_by_number(self):
        calls = [0, 3, 4, 1, 3, 3, 1, 3, 3, 7, 5, 2, 0, 2, 4, 1, 6, 1, 0, 2, 0, 9]
        self.assertEqual(answers(calls), [1, 0, 1, 0, 4, 3, 0, 1, 2, 1, 0, 2, 1, 1, 1, 0, 2, 1, 0, 1, -1])

    def test_the_answers_of_the_places_8_to_15(self):
        calls = [13, 3, 1, 0, 3, 2, 1, 3, 0, 1, 0, 8, 0, 9, 0, 10, 0, 11, 1, 12, 0, 4, 1, 12, 0, 14, 15]
        self.assertEqual(answers(calls), [1, 3, 1, 0, 1, 0, 1, 1, 5, 1, 3, 0, 1, 0, 2, 1, 1, 4, 0, 2, 7, 7, 1, -6, 1, 0,
                                          1, 1, 4, 3, 0, 1, 0, 10, 3, 2, 3, 0, 0, 0, 3, 0, 1, 0])

    def test_the_refusals_of_the_places_8_to_15(self):
        calls = [8, 0, 9, 0, 10, 0, 11, 0, 12, 0, 13, 1, 0, 14, 15, 0, 6, 3, 8, 2, 9, 1, 10, 1, 11, 1, 12, 1, 13, 2, 2]
        self.assertEqual(answers(calls), [1, -2] * 5 + [1, -1] + [1, -2] * 2 + [1, 0, 1, -1] + [1, -8] * 4 + [1, -1])

    def test_a_refusal_is_its_number_alone(self):
        calls = [3, 1, 2, 0, 0, 0, 2, 2, 5, 0, 4, 1, 5, 1, 1, 6, 1, -1]
        self.assertEqual(answers(calls), [1, -2, 1, -2, 1, 0, 1, -1, 1, -6, 1, -6, 1, -1])

    def test_the_call_behind_a_refused_row_is_read(self):
        for row in ([], [5] * 64, [5] * 65, [5] * 100, [HUGE, -HUGE]):
            for place in (SET, TOGETHER):
                self.assertEqual(ask((place, row), (RING, 2, 2), (place, row), (RIGHTS,)), [[-2], [0], [-1], [1, 0]])

    def test_one_call_alone(self):
        self.assertEqual(answers([7]), [1, -2])
        self.assertEqual(answers([15]), [1, -2])
        self.assertEqual(answers([0, 2, 1]), [1, 0])
        self.assertEqual(answers([13, 4, 0]), [1, 3])

    def test_what_is_handed_in_is_not_changed(self):
        handed = FrozenList(LONG)
        answers(handed)
        self.assertEqual(list(handed), LONG)

    def test_the_second_time_is_as_the_first(self):
        first = answers(LONG)
        wanted = list(first)
        first.clear()
        self.assertEqual(answers(LONG), wanted)
        self.assertEqual(answers([3]), [1, -2])
        self.assertEqual(answers([8, 0]), [1, -2])

    def test_what_is_given_back_is_not_kept(self):
        wanted = ask((RING, 3, 3), (STATE,), (WORST_OF_ALL, 1), (STATE,))
        told = answers(flat([(RING, 3, 3), (STATE,)]))
        told[:] = [9] * len(told)
        self.assertEqual(ask((RING, 3, 3), (STATE,), (WORST_OF_ALL, 1), (STATE,)), wanted)

    def test_400_calls(self):
        row = [1000000000] * 36
        told = ask((RING, 6, 16), *[(RUN, row)] * 399)
        self.assertEqual(told, [[0]] + [[1, 0]] * 399)

    def test_it_prints_nothing(self):
        out = io.StringIO()
        with contextlib.redirect_stdout(out), contextlib.redirect_stderr(out):
            answers(LONG)
        self.assertEqual(out.getvalue(), "")


if __name__ == "__main__":
    unittest.main()
