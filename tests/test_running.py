"""Point 7: running programs; point 1 of it."""

import unittest

from halfrun import errors
from halfrun.running import run
from helping import GREAT, WORDS, Case, body, nested, rows

# Each loop ends in TooLong, so that where it stands something else must have been left aside.
LOOP = "loop = (loop)"


class ExpressionTest(Case):
    def test_values(self):
        for value in (0, 1, -5, GREAT, -GREAT, (), (1, (2, ()), -3), nested(50), (1,) * 49):
            self.tells((("f", (), ("value", value)),), (), 0, value)

    def test_names(self):
        for name, told in (("x", 7), ("y", (1, (2,))), ("z", -3)):
            self.tells((("f", ("x", "y", "z"), ("name", name)),), (7, (1, (2,)), -3), 0, told)

    def test_six_inputs(self):
        self.tells(rows("f a b c d e g = (list g e d c b a)"), (1, 2, 3, 4, 5, 6), 0, (6, 5, 4, 3, 2, 1))

    def test_each_word_is_refused(self):
        for word in WORDS:
            program = rows(f"f = (refuse {word})")
            self.refuses(program, (), 0, word)
            with self.assertRaises(getattr(errors, word)):
                run(program, (), 0)

    def test_dos(self):
        for text, inputs, told in (
                ("(plus x y)", (2, 3), 5), ("(minus x y)", (2, 3), -1), ("(times x y)", (2, 3), 6),
                ("(over x y)", (-7, 2), -4), ("(less x y)", (2, 3), 1), ("(less x y)", (3, 2), 0),
                ("(down x)", (9, 0), 8), ("(first x)", ((4, 5), 0), 4), ("(rest x)", ((4, 5), 0), (5,)),
                ("(empty x)", ((), 0), 1), ("(same x y)", ((1,), (1,)), 1), ("(same x y)", ((1,), 1), 0),
                ("(join x y)", (1, (2,)), (1, 2)), ("(list)", (1, 2), ()),
                ("(list x y x y x y x y)", (1, 2), (1, 2) * 4)):
            self.tells((("f", ("x", "y"), body(text)),), inputs, 0, told)

    def test_dos_that_refuse(self):
        for text, inputs, word in (
                ("(plus x y)", ((), 3), "NoNumber"), ("(over x y)", (1, 0), "ByNought"),
                ("(over x y)", ((), 0), "NoNumber"), ("(down x)", (0, 0), "NoDown"), ("(down x)", ((), 0), "NoNumber"),
                ("(first x)", ((), 0), "NoFirst"), ("(rest x)", (1, 0), "NoList"), ("(join x y)", (1, 1), "NoList"),
                ("(plus x y)", (GREAT, 1), "TooGreat"), ("(times x y)", (10 ** 9, -10 ** 9), "TooGreat"),
                ("(join x y)", (1, (1,) * 49), "TooGreat"), ("(list x)", (nested(50), 0), "TooGreat")):
            self.refuses((("f", ("x", "y"), body(text)),), inputs, 0, word)

    def test_the_order_of_parts(self):
        self.tells(rows("f x y = (minus (minus x y) (minus y x))"), (10, 3), 0, 14)
        self.tells(rows("f x y = (list (list x) (list y x) (list))"), (10, 3), 0, ((10,), (3, 10), ()))


class IfTest(Case):
    def test_the_test_leads(self):
        program = rows("f x = (if x 5 (list 6))")
        self.tells(program, (0,), 0, (6,))
        for number in (1, -1, 2, GREAT, -GREAT):
            self.tells(program, (number,), 0, 5)

    def test_a_list_is_refused(self):
        program = rows("f x = (if x 5 6)")
        for value in ((), (0,), (1, 2), nested(50)):
            self.refuses(program, (value,), 0, "NoNumber")

    def test_a_list_is_refused_ahead_of_both_ways(self):
        program = rows("f x = (if x (refuse NoDown) (refuse NoList))")
        self.refuses(program, ((),), 0, "NoNumber")
        self.refuses(program, (1,), 0, "NoDown")
        self.refuses(program, (0,), 0, "NoList")

    def test_the_other_way_is_left_aside(self):
        self.tells(rows("f x = (if x 5 (refuse NoList))"), (1,), 0, 5)
        self.tells(rows("f x = (if x (refuse NoList) 5)"), (0,), 0, 5)
        self.tells(rows("f x = (if x 5 (loop))", LOOP), (1,), 0, 5)
        self.tells(rows("f x = (if x (loop) 5)", LOOP), (0,), 0, 5)
        self.tells(rows("f x = (if x (f (down x)) 5)"), (3,), 3, 5)

    def test_the_test_refuses(self):
        self.refuses(rows("f x = (if (first x) 5 6)"), ((),), 0, "NoFirst")
        self.refuses(rows("f x = (if (refuse TooGreat) (loop) (loop))", LOOP), (1,), 9, "TooGreat")

    def test_tests_within_tests(self):
        program = rows("f x y = (if (if x y (less y 0)) (list x) (list y))")
        self.tells(program, (1, 0), 0, (0,))
        self.tells(program, (1, 2), 0, (1,))
        self.tells(program, (0, 2), 0, (2,))
        self.tells(program, (0, -2), 0, (0,))
        self.refuses(program, (1, ()), 0, "NoNumber")


class RefusalTest(Case):
    def test_the_first_of_two_parts_decides(self):
        for one in WORDS:
            for other in WORDS:
                self.refuses(rows(f"f = (plus (refuse {one}) (refuse {other}))"), (), 0, one)
                self.refuses(rows(f"f = (g (refuse {one}) (refuse {other}))", "g x y = 1"), (), 0, one)
                self.refuses(rows(f"f = (list 1 (refuse {one}) 2 (refuse {other}))"), (), 0, one)

    def test_a_part_decides_ahead_of_the_operation(self):
        self.refuses(rows("f = (plus [] (refuse NoDown))"), (), 0, "NoDown")
        self.refuses(rows("f x = (over 1 (down x))"), (0,), 0, "NoDown")
        self.refuses(rows("f x = (over 1 (down x))"), (1,), 0, "ByNought")
        self.refuses(rows("f x = (times (first x) (plus (rest x) 1))"), (((), 1),), 0, "NoNumber")

    def test_a_part_decides_ahead_of_the_count(self):
        program = rows("f = (g (refuse NoList))", "g x = x")
        self.refuses(program, (), 0, "NoList")
        self.refuses(program, (), 1, "NoList")

    def test_a_part_that_is_not_used_refuses(self):
        self.refuses(rows("f = (g 1 (refuse NoList))", "g x y = x"), (), 5, "NoList")

    def test_a_refusal_against_the_count(self):
        program = rows("f = (plus (g) (refuse NoList))", "g = 1")
        self.refuses(program, (), 0, "TooLong")
        self.refuses(program, (), 1, "NoList")
        program = rows("f = (plus (refuse NoList) (g))", "g = 1")
        self.refuses(program, (), 0, "NoList")
        self.refuses(program, (), 1, "NoList")
        program = rows("f = (g)", "g = (plus (refuse NoList) (f))")
        self.refuses(program, (), 0, "TooLong")
        self.refuses(program, (), 1, "NoList")

    def test_in_a_body_that_is_called(self):
        program = rows("f x = (plus (g x) (refuse NoDown))", "g x = (first x)")
        self.refuses(program, ((),), 5, "NoFirst")
        self.refuses(program, (3,), 5, "NoList")
        self.refuses(program, ((3,),), 5, "NoDown")


class CallTest(Case):
    def test_parameters_stand_for_the_parts(self):
        self.tells(rows("f x y = (g y (list x) 3)", "g y x z = (list x y z)"), (1, 2), 1, ((1,), 2, 3))

    def test_a_parameter_named_as_a_function(self):
        self.tells(rows("f g = (g g)", "g f = (list f)"), (4,), 1, (4,))

    def test_parameters_behind_a_call_are_as_before(self):
        self.tells(rows("f x = (list x (g 2) x)", "g x = (list x)"), (1,), 1, (1, (2,), 1))
        self.tells(rows("f x = (if x (list x (f (down x)) x) 0)"), (2,), 2, (2, (1, 0, 1), 2))

    def test_functions_without_parameters(self):
        self.tells(rows("f = (list (g) (h) (g))", "g = 1", "h = (g)"), (), 4, (1, 1, 1))

    def test_the_main_function_is_the_first(self):
        one = rows("f = 1", "g = 2")
        self.tells(one, (), 0, 1)
        self.tells((one[1], one[0]), (), 0, 2)

    def test_power(self):
        power = rows("power n x = (if n (times x (power (down n) x)) 1)")
        self.tells(power, (5, 3), 5, 243)
        self.refuses(power, (5, 3), 4, "TooLong")
        self.tells(power, (0, 3), 0, 1)
        self.refuses(power, (18, 10), 100, "TooGreat")
        self.tells(power, (17, 10), 100, 10 ** 17)
        self.refuses(power, (-1, 3), 5, "NoDown")


class CountTest(Case):
    def check(self, program, inputs, calls, value):
        """As many calls as are made will do, one less won't."""
        for most in (calls, calls + 1, calls + 1000, 10 ** 30):
            self.tells(program, inputs, most, value)
        for most in range(calls):
            self.refuses(program, inputs, most, "TooLong")

    def test_counts(self):
        self.check(rows("f = 3"), (), 0, 3)
        self.check(rows("f = (g)", "g = 3"), (), 1, 3)
        self.check(rows("f = (plus (g) (g))", "g = 3"), (), 2, 6)
        self.check(rows("f = (g (g (g 1)))", "g x = (list x)"), (), 3, (((1,),),))
        self.check(rows("f x = (if x (plus 2 (f (down x))) 0)"), (7,), 7, 14)
        self.check(rows("f x = (if (less x 2) x (plus (f (minus x 1)) (f (minus x 2))))"), (6,), 24, 8)
        self.check(rows("f = (if (g) (g) 1)", "g = 0"), (), 1, 1)
        self.check(rows("f = (if (g) (g) 1)", "g = 2"), (), 2, 2)

    def test_what_is_left_aside_does_not_count(self):
        self.check(rows("f x = (if x 4 (g))", "g = 3"), (1,), 0, 4)

    def test_a_call_counts_behind_its_parts(self):
        program = rows("f = (g (h) (refuse NoList))", "g x y = 1", "h = 1")
        self.refuses(program, (), 0, "TooLong")
        self.refuses(program, (), 1, "NoList")
        program = rows("f = (g (h) 1)", "g x y = 1", "h = (refuse NoDown)")
        self.refuses(program, (), 0, "TooLong")
        self.refuses(program, (), 1, "NoDown")

    def test_a_call_counts_ahead_of_its_body(self):
        program = rows("f = (g)", "g = (refuse NoDown)")
        self.refuses(program, (), 0, "TooLong")
        self.refuses(program, (), 1, "NoDown")

    def test_each_run_counts_from_the_start(self):
        program = rows("f = (plus (g) (g))", "g = 3")
        for _ in range(3):
            self.assertEqual(run(program, (), 2), 6)
            with self.assertRaises(errors.TooLong):
                run(program, (), 1)


class EndlessTest(Case):
    def test_too_long_whatever_most_is(self):
        for texts in (("f = (f)",), ("f = (plus 1 (f))",), ("f = (f2 (f))", "f2 x = x"), ("f = (if (f) 1 2)",),
                      ("f = (g)", "g = (f)"), ("f = (list (f) (refuse NoList))",), ("f = (g (f) 1)", "g x y = x")):
            for most in (0, 1, 2, 3, 999, 1000, 5000):
                self.refuses(rows(*texts), (), most, "TooLong")
        self.refuses(rows("f = (plus 1 (f))"), (), 40000, "TooLong")

    def test_an_endless_part_against_a_refusal(self):
        self.refuses(rows("f = (plus (refuse NoList) (f))"), (), 50, "NoList")
        self.refuses(rows("f = (plus (f) (refuse NoList))"), (), 50, "TooLong")


class DeepTest(Case):
    def test_at_the_end_of_a_body(self):
        for deep in (2000, 2500):
            self.tells(rows("f x y = (if x (f (down x) (plus y 2)) y)"), (deep, 0), deep, 2 * deep)

    def test_within_a_do(self):
        for deep in (2000, 2500):
            program = rows("f x = (if x (plus 2 (f (down x))) 0)")
            self.tells(program, (deep,), deep, 2 * deep)
            self.refuses(program, (deep,), deep - 1, "TooLong")
            self.refuses(rows("f x = (if x (plus 2 (f (down x))) (refuse ByNought))"), (deep,), deep, "ByNought")

    def test_within_the_test_of_an_if(self):
        for deep in (2000, 2500):
            self.tells(rows("f x = (if (if x (f (down x)) 3) 4 5)"), (deep,), deep, 4)

    def test_within_a_part_of_another_call(self):
        for deep in (2000, 2500):
            program = rows("f x = (if x (g 1 (f (down x))) 0)", "g x y = (plus x y)")
            self.tells(program, (deep,), 2 * deep, deep)
            self.refuses(program, (deep,), 2 * deep - 1, "TooLong")

    def test_deep_in_each_of_the_bodies(self):
        deep = "(f (down x))"
        for _ in range(16):
            deep = f"(plus 1 {deep})"
        self.tells(rows(f"f x = (if x {deep} 0)"), (2000,), 2000, 16 * 2000)


class BeyondTest(Case):
    def test_a_body_somewhat_too_deep(self):
        deep = ("name", "x")
        for _ in range(60):
            deep = ("do", "plus", (("value", 1), deep))
        self.same(self.ask(run, (("f", ("x",), deep),), (0,), 0), ("value", 60))

    def test_inputs_somewhat_too_great(self):
        program = rows("f x = x")
        for value in (10 ** 18, -10 ** 19, nested(60), (1,) * 60):
            self.same(self.ask(run, program, (value,), 0), ("value", value))

    def test_somewhat_too_many_parameters(self):
        names = ("a", "b", "c", "d", "e", "f", "g")
        program = (("f", names, ("do", "list", tuple(("name", name) for name in names))),)
        self.same(self.ask(run, program, (1, 2, 3, 4, 5, 6, 7), 0), ("value", (1, 2, 3, 4, 5, 6, 7)))


if __name__ == "__main__":
    unittest.main()
