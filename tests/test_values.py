"""Point 2: what a value is, and its weight."""

import unittest

from halfrun.values import is_value, weight

TEN = 10 ** 18


def nested(many):
    """A list in a list .. in a list, so many of them."""
    value = ()
    for _ in range(many - 1):
        value = (value,)
    return value


class IsValueTest(unittest.TestCase):
    def check(self, thing, answer):
        self.assertIs(is_value(thing), answer)
        self.assertIs(is_value(thing), answer)

    def test_numbers(self):
        for number in (0, 1, -1, 7, TEN - 1, 1 - TEN):
            self.check(number, True)
            self.check((number,), True)

    def test_numbers_that_are_too_great(self):
        for number in (TEN, -TEN, TEN + 1, -TEN - 1, 10 ** 5000, -10 ** 5000):
            self.check(number, False)
            self.check((1, (number,)), False)

    def test_truth_values_are_none(self):
        for truth in (True, False):
            self.check(truth, False)
            self.check((truth,), False)
            self.check((1, (2, truth)), False)
            self.check((truth, 1), False)

    def test_texts_and_none_are_none(self):
        for thing in (None, "", "1", "value"):
            self.check(thing, False)
            self.check((thing,), False)
            self.check((1, (2, thing)), False)
            self.check((thing, 1), False)

    def test_lists(self):
        for value in ((), ((),), (1,), (1, 2), (1, (2, (3, ())), 4), ((1, 2), (1, 2))):
            self.check(value, True)

    def test_a_flat_list_of_50_and_of_51(self):
        self.check((1,) * 49, True)
        self.check((1,) * 50, False)
        self.check(((),) * 49, True)
        self.check(((),) * 50, False)

    def test_a_nested_list_of_50_and_of_51(self):
        self.check(nested(50), True)
        self.check(nested(51), False)
        self.check(((1,) * 20, (2,) * 20, (3,) * 6), True)
        self.check(((1,) * 20, (2,) * 20, (3,) * 7), False)

    def test_what_is_far_too_heavy(self):
        self.check(nested(5000), False)
        self.check((1,) * 100000, False)
        doubled = ()
        for _ in range(200):
            doubled = (doubled, doubled)
        self.check(doubled, False)


class WeightTest(unittest.TestCase):
    def check(self, value, answer):
        for _ in range(2):
            told = weight(value)
            self.assertIs(int, type(told))
            self.assertEqual(told, answer)

    def test_a_number(self):
        for number in (0, 5, -5, TEN - 1, 1 - TEN):
            self.check(number, 1)

    def test_lists(self):
        self.check((), 1)
        self.check((7,), 2)
        self.check(((),), 2)
        self.check((1, 2, 3), 4)
        self.check((1, (2, 3)), 5)
        self.check(((1, ()), (), (2, (3,))), 9)

    def test_about_the_limit(self):
        self.check((1,) * 49, 50)
        self.check((1,) * 50, 51)
        self.check(nested(50), 50)
        self.check(nested(51), 51)
        self.check(nested(3000), 3000)

    def test_what_stands_twice_counts_twice(self):
        part = (1, 2)
        self.check((part, part), 7)


if __name__ == "__main__":
    unittest.main()
