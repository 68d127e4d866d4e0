"""Points 4, 5 and 6: names, expressions, functions, programs; point 1 of them."""

import copy
import unittest

from halfrun.programs import is_good, is_name

TAKES = {
    "plus": (2,), "minus": (2,), "times": (2,), "over": (2,), "less": (2,), "down": (1,),
    "first": (1,), "rest": (1,), "empty": (1,), "same": (2,), "join": (2,), "list": range(9),
}
WORDS = ("NoNumber", "NoList", "NoFirst", "NoDown", "ByNought", "TooGreat")
ONE = ("value", 1)
X = ("name", "x")


def deep(depth, wrap, leaf=ONE):
    """An expression of that depth, the leaf wrapped again and again."""
    expression = leaf
    for _ in range(depth - 1):
        expression = wrap(expression)
    return expression


WRAPS = (
    lambda part: ("do", "list", (part,)),
    lambda part: ("do", "plus", (ONE, part)),
    lambda part: ("if", part, ONE, ONE),
    lambda part: ("if", ONE, part, ONE),
    lambda part: ("if", ONE, ONE, part),
    lambda part: ("call", "f", (part, ONE)),
    lambda part: ("call", "f", (ONE, part)),
)


class IsNameTest(unittest.TestCase):
    def check(self, texts, answer):
        for text in texts:
            self.assertIs(is_name(text), answer, text)
            self.assertIs(is_name(text), answer, text)

    def test_names(self):
        self.check(("a", "z", "f1", "x9y0", "power", "a0123456", "abcdefgh", "value", "name", "do", "call"), True)

    def test_lengths(self):
        self.check(("", "abcdefghi", "a12345678", "a" * 100), False)
        self.check(("a", "a" * 8), True)

    def test_a_figure_first(self):
        self.check(("1", "1a", "0", "9abc"), False)

    def test_other_signs(self):
        self.check(("A", "aB", "Abc", " ", "a b", " a", "a ", "a_b", "_a", "a-b", "a.", "a\n", "\ta",
                    "(", "a`", "{a", "a{", "a/", "a:", "-1", "~"), False)

    def test_words_that_mean_something_else(self):
        self.check(TAKES, False)
        self.check(("if", "refuse"), False)

    def test_what_begins_or_ends_like_these(self):
        self.check(("iff", "first1", "refuses", "i", "refus", "plus1", "lists", "aif", "downs", "rests", "ifrefuse"),
                   True)


class GoodTest(unittest.TestCase):
    def check(self, program, answer):
        before = copy.deepcopy(program)
        self.assertIs(is_good(program), answer, program)
        self.assertIs(is_good(program), answer, program)
        self.assertEqual(program, before)

    def body(self, expression, answer):
        """The expression as the body of a function of x and y, f of two beside it, and as a part in a body."""
        other = ("g", (), ONE)
        self.check((("f", ("x", "y"), expression), other), answer)
        self.check((other, ("f", ("x", "y"), expression)), answer)
        for wrap in WRAPS:
            self.check((("f", ("x", "y"), wrap(expression)), other), answer)


class ExpressionTest(GoodTest):
    def test_values(self):
        for value in (0, 1, -1, (), (1, (2, ())), 10 ** 18 - 1, 1 - 10 ** 18, (1,) * 49):
            self.body(("value", value), True)
        for thing in (10 ** 18, -10 ** 18, True, False, None, "", "1", "x", (1, True), (None,), ((1, "a"),),
                      (1,) * 50):
            self.body(("value", thing), False)
        self.body(("value",), False)
        self.body(("value", 1, 2), False)

    def test_names(self):
        self.body(("name", "x"), True)
        self.body(("name", "y"), True)
        for name in ("z", "f", "g", "", "X", "plus", "xy", 1, None, True, (), ("x",)):
            self.body(("name", name), False)
        self.body(("name",), False)
        self.body(("name", "x", "y"), False)

    def test_refuses(self):
        for word in WORDS:
            self.body(("refuse", word), True)
        for word in ("TooLong", "NotKept", "NoText", "HalfError", "ValueError", "", "nonumber", "No", "x", 1, None,
                     (), ("NoList",)):
            self.body(("refuse", word), False)
        self.body(("refuse",), False)
        self.body(("refuse", "NoList", "NoList"), False)

    def test_ifs(self):
        self.body(("if", X, ONE, ("refuse", "NoList")), True)
        self.body(("if",), False)
        self.body(("if", X), False)
        self.body(("if", X, ONE), False)
        self.body(("if", X, ONE, ONE, ONE), False)
        self.body(("if", (X, ONE, ONE)), False)
        bad = ("name", "z")
        self.body(("if", bad, ONE, ONE), False)
        self.body(("if", ONE, bad, ONE), False)
        self.body(("if", ONE, ONE, bad), False)

    def test_dos(self):
        for operation, counts in TAKES.items():
            for many in range(12):
                self.body(("do", operation, (X,) * many), many in counts)
        self.body(("do",), False)
        self.body(("do", "list"), False)
        self.body(("do", "list", (), ()), False)
        self.body(("do", "plus", X, X), False)
        self.body(("do", "first", X), False)
        self.body(("do", "plus", X), False)
        self.body(("do", (X, X)), False)
        for bad in (("name", "z"), ("value", None), ("refuse", "TooLong"), ()):
            self.body(("do", "plus", (bad, ONE)), False)
            self.body(("do", "plus", (ONE, bad)), False)

    def test_unknown_operations(self):
        for operation in ("", "up", "Plus", "f", "g", "if", "refuse", "call", "lists", None, 1, True, (), ("plus",),
                          ["plus"]):
            for many in range(4):
                self.body(("do", operation, (X,) * many), False)

    def test_parts_that_are_no_tuple(self):
        for parts in (None, 1, "", "xy", True):
            self.body(("do", "list", parts), False)
            self.body(("do", "plus", parts), False)
            self.body(("call", "g", parts), False)
            self.body(("call", "f", parts), False)

    def test_calls(self):
        for many in range(10):
            self.body(("call", "f", (X,) * many), many == 2)
            self.body(("call", "g", (X,) * many), many == 0)
        for name in ("h", "x", "y", "", "plus", "list", "if", None, 0, 2, True, (), ("f",), ["f"]):
            for many in range(4):
                self.body(("call", name, (X,) * many), False)
        self.body(("call",), False)
        self.body(("call", "g"), False)
        self.body(("call", "g", (), ()), False)
        self.body(("call", "f", X, X), False)
        self.body(("call", "f", X), False)
        for bad in (("name", "z"), ("value", None), ("refuse", "TooLong"), ()):
            self.body(("call", "f", (bad, ONE)), False)
            self.body(("call", "f", (ONE, bad)), False)

    def test_other_words_in_front(self):
        for word in ("", "Value", "values", "names", "plus", "f", "x", "else", "NoList", None, 1, True, (), ("value",)):
            self.body((word,), False)
            self.body((word, 1), False)
            self.body((word, "x"), False)
            self.body((word, "NoList"), False)
            self.body((word, "list", ()), False)
            self.body((word, "g", ()), False)
            self.body((word, ONE, ONE, ONE), False)

    def test_no_members_or_no_tuple(self):
        self.body((), False)
        for thing in (None, 1, True, "", "x", "value"):
            self.body(thing, False)
        self.body((ONE,), False)
        self.body((1, 2), False)
        self.body(["value", 1], False)

    def test_depth(self):
        for wrap in WRAPS:
            for leaf in (ONE, X, ("refuse", "NoDown"), ("do", "list", ()), ("call", "g", ())):
                for depth in (1, 2, 19, 20, 21, 22, 40):
                    program = (("f", ("x", "y"), deep(depth, wrap, leaf)), ("g", (), ONE))
                    self.check(program, depth <= 20)
                    self.check((program[1], program[0]), depth <= 20)

    def test_only_the_deepest_part_tells_the_depth(self):
        self.check((("f", (), ("if", deep(19, WRAPS[0]), deep(18, WRAPS[1]), deep(17, WRAPS[0]))),), True)
        self.check((("f", (), ("if", deep(17, WRAPS[0]), deep(20, WRAPS[1]), deep(19, WRAPS[0]))),), False)

    def test_a_value_does_not_add_to_the_depth(self):
        heavy = ()
        for _ in range(49):
            heavy = (heavy,)
        self.check((("f", (), deep(20, WRAPS[0], ("value", heavy))),), True)

    def test_far_too_deep(self):
        for wrap in WRAPS[:5]:
            program = (("f", (), deep(5000, wrap)),)
            self.assertIs(is_good(program), False)


class FunctionTest(GoodTest):
    def test_parameters(self):
        names = ("a", "b", "c", "d", "e", "f", "g", "h")
        for many in range(9):
            self.check((("f", names[:many], ONE),), many <= 6)

    def test_parameters_that_are_alike(self):
        self.check((("f", ("a", "a"), ONE),), False)
        self.check((("f", ("a", "b", "c", "a"), ONE),), False)
        self.check((("g", (), ONE), ("f", ("b", "a", "a"), ONE)), False)

    def test_parameters_that_are_no_names(self):
        for text in ("", "A", "1", "plus", "list", "if", "refuse", "abcdefghi", "a b"):
            self.check((("f", (text,), ONE),), False)
            self.check((("f", ("a", text), ONE),), False)
            self.check((("g", (), ONE), ("f", (text, "a"), ONE)), False)

    def test_names_of_functions(self):
        for text in ("f", "f1", "abcdefgh", "iff", "value"):
            self.check(((text, (), ONE),), True)
            self.check((("g", (), ONE), (text, (), ONE)), True)
        for text in ("", "F", "1", "plus", "list", "if", "refuse", "abcdefghi", "a b"):
            self.check(((text, (), ONE),), False)
            self.check((("g", (), ONE), (text, (), ONE)), False)
            self.check((("g", (), ("call", text, ())), (text, (), ONE)), False)

    def test_names_in_a_body_are_its_own_parameters(self):
        self.check((("f", ("x",), X), ("g", ("y",), ("name", "y"))), True)
        self.check((("f", ("x",), X), ("g", ("y",), X)), False)
        self.check((("f", (), X), ("g", ("x",), X)), False)


class ProgramTest(GoodTest):
    def test_no_function(self):
        self.check((), False)

    def test_one_function(self):
        self.check((("f", (), ONE),), True)

    def test_two_functions_of_one_name(self):
        self.check((("f", (), ONE), ("f", (), ONE)), False)
        self.check((("f", (), ONE), ("f", ("x",), X)), False)
        self.check((("f", (), ONE), ("g", (), ONE), ("f", (), ONE)), False)
        self.check((("f", (), ONE), ("g", (), ONE), ("h", (), ONE)), True)

    def test_parameters_named_as_functions(self):
        self.check((("f", ("g",), ("call", "g", (("name", "g"),))), ("g", ("g",), ("name", "g"))), True)
        self.check((("f", ("f",), ("call", "f", (("name", "f"),))),), True)
        self.check((("f", ("g",), ("call", "g", ())),), False)

    def test_calls_of_others_and_of_itself(self):
        self.check((("f", (), ("call", "g", (ONE,))), ("g", ("x",), X)), True)
        self.check((("f", ("x",), X), ("g", (), ("call", "f", (ONE,)))), True)
        self.check((("f", ("x",), ("call", "f", (X,))),), True)
        self.check((("f", (), ("call", "g", ())), ("g", ("x",), X)), False)
        self.check((("f", (), ("call", "g", ())),), False)

    def test_each_function_is_looked_at(self):
        bad = ("h", (), ("name", "x"))
        good = (("f", (), ONE), ("g", (), ONE))
        self.check((bad, *good), False)
        self.check((good[0], bad, good[1]), False)
        self.check((*good, bad), False)

    def test_power(self):
        n = ("name", "n")
        again = ("call", "power", (("do", "down", (n,)), X))
        self.check((("power", ("n", "x"), ("if", n, ("do", "times", (X, again)), ONE)),), True)

    def test_many_functions(self):
        self.check(tuple((f"f{at}", ("x",), ("call", f"f{(at + 1) % 300}", (X,))) for at in range(300)), True)


if __name__ == "__main__":
    unittest.main()
