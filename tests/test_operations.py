"""Point 3: the twelve operations and their refusals; point 1 of them."""

import copy
import unittest

from halfrun import errors
from halfrun.operations import done

GREAT = 10 ** 18 - 1
ALL = ("NoNumber", "NoList", "NoFirst", "NoDown", "ByNought", "TooGreat", "TooLong", "NotKept", "NoText")
FULL = (1,) * 49


class DoneTest(unittest.TestCase):
    def tells(self, operation, values, answer):
        before = copy.deepcopy(values)
        for _ in range(2):
            told = done(operation, values)
            self.assertIs(type(told), type(answer))
            self.assertEqual(told, answer)
            self.assertEqual(values, before)

    def refuses(self, operation, values, word):
        before = copy.deepcopy(values)
        for _ in range(2):
            with self.assertRaises(errors.HalfError) as caught:
                done(operation, values)
            self.assertIs(type(caught.exception), getattr(errors, word))
            self.assertEqual(values, before)
        for other in ALL:
            self.assertEqual(isinstance(caught.exception, getattr(errors, other)), other == word)


class NumbersTest(DoneTest):
    def test_plus(self):
        self.tells("plus", [2, 3], 5)
        self.tells("plus", [2, -3], -1)
        self.tells("plus", [0, 0], 0)

    def test_minus(self):
        self.tells("minus", [2, 3], -1)
        self.tells("minus", [3, 2], 1)
        self.tells("minus", [-3, -2], -1)

    def test_times(self):
        self.tells("times", [6, 7], 42)
        self.tells("times", [-6, 7], -42)
        self.tells("times", [-6, -7], 42)
        self.tells("times", [0, GREAT], 0)

    def test_over_is_rounded_down(self):
        self.tells("over", [7, 2], 3)
        self.tells("over", [-7, 2], -4)
        self.tells("over", [7, -2], -4)
        self.tells("over", [-7, -2], 3)
        self.tells("over", [6, 3], 2)
        self.tells("over", [-6, 3], -2)
        self.tells("over", [0, 5], 0)
        self.tells("over", [1, GREAT], 0)
        self.tells("over", [-1, GREAT], -1)
        self.tells("over", [GREAT, 2], 499999999999999999)

    def test_less(self):
        self.tells("less", [1, 2], 1)
        self.tells("less", [2, 2], 0)
        self.tells("less", [3, 2], 0)
        self.tells("less", [-3, -2], 1)
        self.tells("less", [-2, -3], 0)
        self.tells("less", [-1, 0], 1)

    def test_lists_are_refused(self):
        for operation in ("plus", "minus", "times", "over", "less"):
            for values in ([(), 1], [1, ()], [(1,), (2,)], [1, (2,)], [(), ()]):
                self.refuses(operation, values, "NoNumber")

    def test_over_by_nought(self):
        self.refuses("over", [5, 0], "ByNought")
        self.refuses("over", [0, 0], "ByNought")
        self.refuses("over", [-5, 0], "ByNought")

    def test_over_of_a_list_by_nought_or_of_nought_by_a_list(self):
        self.refuses("over", [(), 0], "NoNumber")
        self.refuses("over", [(1, 2), 0], "NoNumber")
        self.refuses("over", [0, ()], "NoNumber")

    def test_down(self):
        self.tells("down", [1], 0)
        self.tells("down", [2], 1)
        self.tells("down", [GREAT], GREAT - 1)

    def test_down_refused(self):
        self.refuses("down", [0], "NoDown")
        self.refuses("down", [-1], "NoDown")
        self.refuses("down", [-GREAT], "NoDown")
        self.refuses("down", [()], "NoNumber")
        self.refuses("down", [(1, 2)], "NoNumber")


class ListsTest(DoneTest):
    def test_first_and_rest(self):
        self.tells("first", [(1, 2, 3)], 1)
        self.tells("first", [((1, 2), 3)], (1, 2))
        self.tells("first", [((),)], ())
        self.tells("rest", [(1, 2, 3)], (2, 3))
        self.tells("rest", [((1, 2), 3)], (3,))
        self.tells("rest", [(1,)], ())

    def test_empty(self):
        self.tells("empty", [()], 1)
        self.tells("empty", [(0,)], 0)
        self.tells("empty", [((),)], 0)

    def test_a_number_is_refused(self):
        for operation in ("first", "rest", "empty"):
            for number in (0, 1, -1):
                self.refuses(operation, [number], "NoList")

    def test_a_list_without_parts_is_refused(self):
        self.refuses("first", [()], "NoFirst")
        self.refuses("rest", [()], "NoFirst")

    def test_same(self):
        self.tells("same", [1, 1], 1)
        self.tells("same", [1, 2], 0)
        self.tells("same", [1, -1], 0)
        self.tells("same", [(), ()], 1)
        self.tells("same", [(1, (2,)), (1, (2,))], 1)
        self.tells("same", [(1, 2), (2, 1)], 0)
        self.tells("same", [(1,), (1, 1)], 0)
        self.tells("same", [(), 0], 0)
        self.tells("same", [0, ()], 0)
        self.tells("same", [1, (1,)], 0)
        self.tells("same", [(1, (2,)), (1, 2)], 0)

    def test_join(self):
        self.tells("join", [1, ()], (1,))
        self.tells("join", [1, (2, 3)], (1, 2, 3))
        self.tells("join", [(1,), (2,)], ((1,), 2))
        self.tells("join", [(), ()], ((),))

    def test_join_to_no_list(self):
        self.refuses("join", [1, 2], "NoList")
        self.refuses("join", [(), 0], "NoList")
        self.refuses("join", [FULL, 1], "NoList")

    def test_list(self):
        self.tells("list", [], ())
        self.tells("list", [5], (5,))
        self.tells("list", [()], ((),))
        self.tells("list", [1, (2, 3)], (1, (2, 3)))
        self.tells("list", [1, 2, 3, 4, 5, 6, 7, 8], (1, 2, 3, 4, 5, 6, 7, 8))

    def test_a_told_list_stays_as_it_is(self):
        values = [1, (2,)]
        told = done("list", values)
        values.append(3)
        values[0] = 9
        done("list", values)
        self.assertEqual(told, (1, (2,)))


class TooGreatTest(DoneTest):
    def test_sums(self):
        self.tells("plus", [GREAT, 0], GREAT)
        self.tells("plus", [GREAT - 1, 1], GREAT)
        self.tells("plus", [-GREAT + 1, -1], -GREAT)
        self.refuses("plus", [GREAT, 1], "TooGreat")
        self.refuses("plus", [-GREAT, -1], "TooGreat")
        self.refuses("plus", [GREAT, GREAT], "TooGreat")

    def test_differences(self):
        self.tells("minus", [GREAT - 1, -1], GREAT)
        self.tells("minus", [-GREAT + 1, 1], -GREAT)
        self.refuses("minus", [GREAT, -1], "TooGreat")
        self.refuses("minus", [-GREAT, 1], "TooGreat")

    def test_products(self):
        self.tells("times", [GREAT, 1], GREAT)
        self.tells("times", [GREAT, -1], -GREAT)
        self.tells("times", [10 ** 9, 10 ** 9 - 1], 10 ** 18 - 10 ** 9)
        self.refuses("times", [10 ** 9, 10 ** 9], "TooGreat")
        self.refuses("times", [10 ** 9, -10 ** 9], "TooGreat")
        self.refuses("times", [GREAT, GREAT], "TooGreat")

    def test_quotients(self):
        self.tells("over", [GREAT, 1], GREAT)
        self.tells("over", [GREAT, -1], -GREAT)
        self.tells("over", [-GREAT, -1], GREAT)
        # No value has such a quotient: the first is somewhat beyond the limit here.
        self.refuses("over", [10 ** 18, 1], "TooGreat")
        self.refuses("over", [10 ** 18, -1], "TooGreat")

    def test_down(self):
        self.tells("down", [10 ** 18], GREAT)
        self.refuses("down", [10 ** 18 + 1], "TooGreat")

    def test_join(self):
        self.tells("join", [1, (1,) * 48], FULL)
        self.refuses("join", [1, FULL], "TooGreat")
        self.tells("join", [(1,) * 47, (2,)], ((1,) * 47, 2))
        self.refuses("join", [(1,) * 48, (2,)], "TooGreat")
        self.refuses("join", [FULL, ()], "TooGreat")

    def test_list(self):
        self.tells("list", [(1,) * 48], ((1,) * 48,))
        self.refuses("list", [FULL], "TooGreat")
        self.tells("list", [(1,) * 24, (1,) * 23], ((1,) * 24, (1,) * 23))
        self.refuses("list", [(1,) * 24, (1,) * 24], "TooGreat")
        self.tells("list", [(1,) * 41, 2, 3, 4, 5, 6, 7, 8], ((1,) * 41, 2, 3, 4, 5, 6, 7, 8))
        self.refuses("list", [(1,) * 42, 2, 3, 4, 5, 6, 7, 8], "TooGreat")

    def test_parts_of_the_heaviest_list(self):
        self.tells("first", [FULL], 1)
        self.tells("rest", [FULL], (1,) * 48)
        self.tells("empty", [FULL], 0)
        self.tells("same", [FULL, FULL], 1)


if __name__ == "__main__":
    unittest.main()
