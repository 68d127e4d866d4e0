"""Points 7 to 12 over programs made by a seeded draw, against a plain telling of the document."""

import random
import unittest

from halfrun.halving import cases, left_over
from halfrun.programs import is_good
from halfrun.running import run
from halfrun.sortings import keeps
from halfrun.texts import read, shown
from helping import GREAT, WORDS, Case, outcome

TAKES = {"plus": 2, "minus": 2, "times": 2, "over": 2, "less": 2, "down": 1, "first": 1, "rest": 1, "empty": 1,
         "same": 2, "join": 2, "list": None}
VALUES = (0, 0, 1, 1, 2, 3, -1, -2, GREAT, -GREAT, (), (), (0,), (1, 2), ((),), (2, (1, 0)), ((1,), 2), (1,) * 47)
INPUTS = tuple(value for value in VALUES[:-1] if value != GREAT)


class Refused(Exception):
    """A refusal, by its word."""


def plain_weight(value):
    return 1 + sum(map(plain_weight, value)) if isinstance(value, tuple) else 1


def plain_done(operation, values):
    one, other = (*values, None, None)[:2]
    if operation in ("plus", "minus", "times", "over", "less", "down"):
        if any(isinstance(value, tuple) for value in values):
            raise Refused("NoNumber")
    if operation == "join" and not isinstance(other, tuple):
        raise Refused("NoList")
    if operation in ("first", "rest", "empty") and not isinstance(one, tuple):
        raise Refused("NoList")
    if operation in ("first", "rest") and one == ():
        raise Refused("NoFirst")
    if operation == "down" and one <= 0:
        raise Refused("NoDown")
    if operation == "over" and other == 0:
        raise Refused("ByNought")
    told = {
        "plus": lambda: one + other, "minus": lambda: one - other, "times": lambda: one * other,
        "over": lambda: one // other, "less": lambda: int(one < other), "down": lambda: one - 1,
        "first": lambda: one[0], "rest": lambda: one[1:], "empty": lambda: int(one == ()),
        "same": lambda: int(one == other), "join": lambda: (one,) + other, "list": lambda: tuple(values),
    }[operation]()
    if plain_weight(told) > 50 or isinstance(told, int) and abs(told) > GREAT:
        raise Refused("TooGreat")
    return told


class PlainRun:
    """Point 7, told by calls within calls."""

    def __init__(self, program, most):
        self.functions = {name: (parameters, body) for name, parameters, body in program}
        self.left = most

    def call(self, name, inputs):
        parameters, body = self.functions[name]
        return self.tell(body, dict(zip(parameters, inputs, strict=True)))

    def tell(self, expression, scope):
        kind = expression[0]
        if kind == "value":
            return expression[1]
        if kind == "name":
            return scope[expression[1]]
        if kind == "refuse":
            raise Refused(expression[1])
        if kind == "if":
            test = self.tell(expression[1], scope)
            if isinstance(test, tuple):
                raise Refused("NoNumber")
            return self.tell(expression[2] if test else expression[3], scope)
        values = [self.tell(part, scope) for part in expression[2]]
        if kind == "do":
            return plain_done(expression[1], values)
        self.left -= 1
        if self.left < 0:
            raise Refused("TooLong")
        return self.call(expression[1], values)


def plain_run(program, inputs, most):
    try:
        return ("value", PlainRun(program, most).call(program[0][0], inputs))
    except Refused as refused:
        return ("refused", str(refused))


def is_tame(expression, known):
    match expression:
        case ("value", _) | ("refuse", _):
            return True
        case ("name", name):
            return name in known
        case ("do", "first" | "rest" | "down", (part,)):
            return is_tame(part, known)
    return False


def is_kept(expression, known, sorting):
    match expression:
        case ("if", *parts):
            return all(is_kept(part, known, sorting) for part in parts)
        case ("do", _, parts):
            return all(is_kept(part, known, sorting) for part in parts)
        case ("call", name, parts):
            return (all(is_kept(part, known, sorting) for part in parts)
                    and all(is_tame(part, known) for part, is_known in zip(parts, sorting[name]) if is_known))
    return True


def split(things, sorting, known):
    return tuple(thing for thing, is_known in zip(things, sorting, strict=True) if is_known is known)


class PlainHalving:
    """Points 10 and 11: a call left over is ("call", CASE, PARTS) here, and the cases are gathered afterwards."""

    def __init__(self, program, sorting):
        self.functions = {function[0]: function for function in program}
        self.sorting = sorting

    def first_refuse(self, parts):
        others = [part for part in parts if part[0] != "value"]
        return others[0] if others and others[0][0] == "refuse" else None

    def of_call(self, name, worked):
        sorting = self.sorting[name]
        for at, part in enumerate(worked):
            ahead = split(worked[:at], sorting[:at], False)
            if part[0] != "refuse":
                continue
            if sorting[at]:
                return part if all(one[0] == "value" for one in ahead) else ("do", "list", (*ahead, part))
            if self.first_refuse((*ahead, part)):
                return part
        known = tuple(part[1] for part in split(worked, sorting, True))
        return ("call", (name, known), split(worked, sorting, False))

    def of(self, expression, scope):
        match expression:
            case ("name", name):
                return ("value", scope[name]) if name in scope else expression
            case ("if", test, one, other):
                told, *ways = (self.of(part, scope) for part in (test, one, other))
                if told[0] == "refuse":
                    return told
                if told[0] != "value":
                    return ("if", told, *ways)
                if isinstance(told[1], tuple):
                    return ("refuse", "NoNumber")
                return ways[0] if told[1] else ways[1]
            case ("do", operation, parts):
                worked = tuple(self.of(part, scope) for part in parts)
                if self.first_refuse(worked):
                    return self.first_refuse(worked)
                if any(part[0] != "value" for part in worked):
                    return ("do", operation, worked)
                try:
                    return ("value", plain_done(operation, [part[1] for part in worked]))
                except Refused as refused:
                    return ("refuse", str(refused))
            case ("call", name, parts):
                return self.of_call(name, tuple(self.of(part, scope) for part in parts))
        return expression

    def calls(self, expression):
        match expression:
            case ("if", *parts) | ("do", _, parts):
                return [case for part in parts for case in self.calls(part)]
            case ("call", case, parts):
                return [inner for part in parts for inner in self.calls(part)] + [case]
        return []

    def all(self, main, known):
        """The functions left over, each named by its case."""
        found = [(main, known)]
        functions = []
        for name, values in found:
            _, parameters, body = self.functions[name]
            left = self.of(body, dict(zip(split(parameters, self.sorting[name], True), values, strict=True)))
            functions.append(((name, values), split(parameters, self.sorting[name], False), left))
            for case in self.calls(left):
                if not any(repr(case) == repr(one) for one in found):
                    found.append(case)
        return functions


def by_cases(expression, table):
    match expression:
        case ("if", *parts):
            return ("if", *(by_cases(part, table) for part in parts))
        case ("do", operation, parts):
            return ("do", operation, tuple(by_cases(part, table) for part in parts))
        case ("call", name, parts):
            return ("call", table[name], tuple(by_cases(part, table) for part in parts))
    return expression


def breaks_the_last_row(expression):
    """Whether there is in it what point 11's last row says is in no body left over."""
    match expression:
        case ("if", *parts):
            ill = parts[0][0] in ("value", "refuse")
        case (("do" | "call") as kind, _, parts):
            others = [part[0] for part in parts if part[0] != "value"]
            ill = kind == "do" and not others or bool(others) and others[0] == "refuse"
        case _:
            return False
    return ill or any(breaks_the_last_row(part) for part in parts)


class Maker:
    """Programs of a few functions, most of which keep the sorting that is made with them."""

    def __init__(self, seed):
        self.draw = random.Random(seed)
        self.slips = self.draw.random() < 0.1
        names = [f"f{at}" for at in range(self.draw.randint(1, 4))]
        self.parameters = {name: tuple("abcdef"[:self.draw.randint(0, 4)]) for name in names}
        often = self.draw.choice((0.0, 0.3, 0.5, 0.7, 1.0))
        self.sorting = {name: tuple(self.draw.random() < often for _ in self.parameters[name]) for name in names}
        self.program = tuple((name, self.parameters[name], self.expression(name, self.draw.randint(1, 5)))
                             for name in names)

    def leaf(self, function):
        if self.parameters[function] and self.draw.random() < 0.6:
            return ("name", self.draw.choice(self.parameters[function]))
        if self.draw.random() < 0.15:
            return ("refuse", self.draw.choice(WORDS))
        return ("value", self.draw.choice(VALUES))

    def tame(self, function):
        if self.slips and self.draw.random() < 0.1:
            return self.expression(function, 2)
        if self.draw.random() < 0.4:
            return ("do", self.draw.choice(("first", "rest", "down")), (self.tame(function),))
        known = split(self.parameters[function], self.sorting[function], True)
        # A known count down from the greatest number would have a case for each number below it.
        while not is_tame(leaf := self.leaf(function), known) or leaf == ("value", GREAT):
            pass
        return leaf

    def expression(self, function, depth):
        if depth <= 1:
            return self.leaf(function)
        kind = self.draw.choice(("leaf", "if", "if", "do", "do", "do", "call", "call", "call"))
        if kind == "leaf":
            return self.leaf(function)
        if kind == "if":
            return ("if", *(self.expression(function, depth - 1) for _ in range(3)))
        if kind == "do":
            operation = self.draw.choice(tuple(TAKES))
            many = TAKES[operation] if TAKES[operation] is not None else self.draw.randint(0, 4)
            return ("do", operation, tuple(self.expression(function, depth - 1) for _ in range(many)))
        name = self.draw.choice(tuple(self.parameters))
        return ("call", name, tuple(self.tame(function) if is_known else self.expression(function, depth - 1)
                                    for is_known in self.sorting[name]))

    def inputs(self, many):
        return tuple(self.draw.choice(INPUTS) for _ in range(many))


class WholeTest(Case):
    def check(self, seed):
        """Answer whether the program keeps the sorting."""
        maker = Maker(seed)
        program, sorting = maker.program, maker.sorting
        self.assertTrue(is_good(program))
        self.same(read(shown(program)), program)
        kept = all(is_kept(body, split(parameters, sorting[name], True), sorting)
                   for name, parameters, body in program)
        self.assertIs(keeps(program, sorting), kept)
        main = program[0][0]
        known = maker.inputs(sum(sorting[main]))
        if kept:
            self.check_left(maker, program, sorting, known)
        else:
            self.same(outcome(left_over, program, sorting, known), ("refused", "NotKept"))
            self.same(outcome(cases, program, sorting, known), ("refused", "NotKept"))
        return kept

    def check_left(self, maker, program, sorting, known):
        main = program[0][0]
        left = self.left(program, sorting, known)
        self.same(read(shown(left)), left)
        self.assertFalse(any(breaks_the_last_row(body) for _, _, body in left))
        table = {name: (function, values) for name, function, values in cases(program, sorting, known)}
        self.same([(table[name], parameters, by_cases(body, table)) for name, parameters, body in left],
                  PlainHalving(program, sorting).all(main, known))
        for _ in range(4):
            unknown = maker.inputs(len(sorting[main]) - sum(sorting[main]))
            known_waits, unknown_waits = iter(known), iter(unknown)
            both = tuple(next(known_waits if is_known else unknown_waits) for is_known in sorting[main])
            for most in (0, 1, 2, 3, 5, 10, 50):
                told = plain_run(program, both, most)
                self.same(outcome(run, program, both, most), told)
                self.same(outcome(run, left, unknown, most), told)

    def test_programs_as_they_are_drawn(self):
        kept = [self.check(seed) for seed in range(1200)]
        self.assertGreater(sum(kept), 900)
        self.assertGreater(len(kept) - sum(kept), 20)


if __name__ == "__main__":
    unittest.main()
