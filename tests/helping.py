"""What several of the tests use."""

import copy
import unittest

from halfrun import errors
from halfrun.halving import cases, left_over
from halfrun.programs import is_good
from halfrun.running import run
from halfrun.texts import read

ALL = ("NoNumber", "NoList", "NoFirst", "NoDown", "ByNought", "TooGreat", "TooLong", "NotKept", "NoText")
WORDS = ALL[:6]
GREAT = 10 ** 18 - 1


def rows(*texts):
    """The program that is written in these rows."""
    return read("".join(f"{text}\n" for text in texts))


def body(text, parameters="x y"):
    """The expression that is written so, of these parameters and of calls of f (two parts) and g (none)."""
    return rows(f"main {parameters} = {text}", "f a b = a", "g = 0")[0][2]


def nested(many):
    """A list in a list .. in a list, so many of them."""
    value = ()
    for _ in range(many - 1):
        value = (value,)
    return value


def outcome(function, *arguments):
    """The value that a function answers, or the name of its refusal."""
    try:
        return ("value", function(*arguments))
    except errors.HalfError as error:
        return ("refused", type(error).__name__)


class Case(unittest.TestCase):
    def same(self, one, other):
        """Equal, and not only as True and 1 are."""
        self.assertEqual(repr(one), repr(other))

    def ask(self, function, *arguments):
        """The outcome, which is the same when asked again, and the arguments are as they were."""
        before = copy.deepcopy(arguments)
        first = outcome(function, *arguments)
        self.same(arguments, before)
        self.same(outcome(function, *arguments), first)
        self.same(arguments, before)
        return first

    def tells(self, program, inputs, most, value):
        self.assertTrue(is_good(program))
        self.same(self.ask(run, program, inputs, most), ("value", value))

    def refuses(self, program, inputs, most, word):
        self.assertTrue(is_good(program))
        self.same(self.ask(run, program, inputs, most), ("refused", word))

    def left(self, program, sorting, known):
        """The program left over, which is a good one, and of as many functions as there are cases."""
        told, program_left = self.ask(left_over, program, sorting, known)
        self.assertEqual(told, "value", program_left)
        self.assertTrue(is_good(program_left), program_left)
        told, triples = self.ask(cases, program, sorting, known)
        self.assertEqual(told, "value")
        self.assertEqual([function[0] for function in program_left], [triple[0] for triple in triples])
        return program_left

    def cases_of(self, program, sorting, known):
        """The cases of the functions left over, without the names of these."""
        self.left(program, sorting, known)
        return [(function, values) for _, function, values in cases(program, sorting, known)]
