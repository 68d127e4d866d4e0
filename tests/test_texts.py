"""Point 12: texts; points 1 and 2 to 6 of them."""

import unittest

from halfrun import errors
from halfrun.texts import read, shown
from helping import ALL, GREAT, WORDS, Case, nested

ONE = ("value", 1)
X = ("name", "x")
POWER = (("power", ("n", "x"),
          ("if", ("name", "n"),
           ("do", "times", (X, ("call", "power", (("do", "down", (("name", "n"),)), X)))),
           ONE)),)
# Programs and their texts; f x is a function of one part, g one of none.
PAIRS = (
    (POWER, "power n x = (if n (times x (power (down n) x)) 1)\n"),
    ((("f", (), ONE),), "f = 1\n"),
    ((("f", ("x",), X),), "f x = x\n"),
    ((("f", ("a", "b1", "c", "d", "e", "x"), X),), "f a b1 c d e x = x\n"),
    ((("f", (), ("do", "list", ())),), "f = (list)\n"),
    ((("f", (), ("call", "f", ())),), "f = (f)\n"),
    ((("f", (), ("call", "g", (ONE,))), ("g", ("x",), X)), "f = (g 1)\ng x = x\n"),
    ((("g", ("x",), X), ("f", (), ("call", "g", (ONE,)))), "g x = x\nf = (g 1)\n"),
    ((("f", ("g",), ("call", "g", (("name", "g"),))), ("g", ("f",), ("name", "f")), ("h", (), ONE)),
     "f g = (g g)\ng f = f\nh = 1\n"),
    ((("f", ("x",), ("if", X, ("if", X, ONE, X), ("refuse", "NoList"))),), "f x = (if x (if x 1 x) (refuse NoList))\n"),
    ((("f", (), ("do", "list", (ONE,) * 8)),), "f = (list 1 1 1 1 1 1 1 1)\n"),
    ((("value", (), ("value", (1, 2))), ("name", (), ONE), ("do", (), ONE), ("call", (), ("call", "do", ()))),
     "value = [1 2]\nname = 1\ndo = 1\ncall = (do)\n"),
    ((("f", (), ("do", "plus", (("value", ()), ("do", "join", (("value", -1), ("value", (1,))))))),),
     "f = (plus [] (join -1 [1]))\n"),
)
VALUES = (
    (0, "0"), (1, "1"), (10, "10"), (-1, "-1"), (-10, "-10"), (GREAT, "999999999999999999"),
    (-GREAT, "-999999999999999999"), (10 ** 17, "100000000000000000"), ((), "[]"), (((),), "[[]]"), ((1,), "[1]"),
    ((1, 2, -3), "[1 2 -3]"), (((), ()), "[[] []]"), ((1, (2, 3), (), ((4,),)), "[1 [2 3] [] [[4]]]"),
    (((1,), 2), "[[1] 2]"), (nested(50), "[" * 50 + "]" * 50), ((0,) * 49, "[" + "0 " * 48 + "0]"),
)


class ShownTest(Case):
    def test_programs(self):
        for program, text in PAIRS:
            self.same(self.ask(shown, program), ("value", text))

    def test_values(self):
        for value, text in VALUES:
            self.same(self.ask(shown, (("f", (), ("value", value)),)), ("value", f"f = {text}\n"))

    def test_words(self):
        for word in WORDS:
            self.same(self.ask(shown, (("f", (), ("refuse", word)),)), ("value", f"f = (refuse {word})\n"))

    def test_operations(self):
        for word, many in (("plus", 2), ("minus", 2), ("times", 2), ("over", 2), ("less", 2), ("same", 2), ("join", 2),
                           ("down", 1), ("first", 1), ("rest", 1), ("empty", 1), ("list", 3)):
            program = (("f", ("x",), ("do", word, (X,) * many)),)
            text = f"f x = ({word}{' x' * many})\n"
            self.same(self.ask(shown, program), ("value", text))
            self.same(self.ask(read, text), ("value", program))

    def test_somewhat_too_deep_or_too_many(self):
        deep = X
        for _ in range(60):
            deep = ("do", "down", (deep,))
        self.same(self.ask(shown, (("f", ("x",), deep),)), ("value", "f x = " + "(down " * 60 + "x" + ")" * 60 + "\n"))
        self.same(self.ask(shown, (("f", (), ("value", nested(70))),)), ("value", "f = " + "[" * 70 + "]" * 70 + "\n"))
        self.same(self.ask(shown, (("f", (), ("value", 10 ** 18)),)), ("value", "f = 1" + "0" * 18 + "\n"))


class ReadTest(Case):
    def test_programs(self):
        for program, text in PAIRS:
            self.same(self.ask(read, text), ("value", program))

    def test_values(self):
        for value, text in VALUES:
            self.same(self.ask(read, f"f = {text}\n"), ("value", (("f", (), ("value", value)),)))

    def test_words(self):
        for word in WORDS:
            self.same(self.ask(read, f"f = (refuse {word})\n"), ("value", (("f", (), ("refuse", word)),)))

    def test_one_behind_the_other(self):
        for program, text in PAIRS:
            self.same(read(shown(program)), program)
            self.assertEqual(shown(read(text)), text)

    def test_a_body_twenty_deep(self):
        text = "f x = " + "(down " * 19 + "x" + ")" * 19 + "\n"
        self.assertEqual(shown(read(text)), text)

    def test_many_functions(self):
        text = "".join(f"f{at} x = (f{(at + 1) % 3000} (list x {at}))\n" for at in range(3000))
        self.assertEqual(shown(read(text)), text)


class NoTextTest(Case):
    def none(self, *texts):
        for text in texts:
            self.assertEqual(self.ask(read, text), ("refused", "NoText"), text[:100])

    def bodies(self, *texts):
        """Each as the body of f, of x, and as a part within it, with a function g of no parts beside it."""
        for text in texts:
            for place in ("{}", "(plus 1 {})", "(if {} 1 2)", "(if 1 2 {})", "(f {})"):
                self.none(f"f x = {place.format(text)}\ng = 1\n", f"g = 1\nf x = {place.format(text)}\n")

    def test_no_text_is_a_half_error_and_none_of_the_others(self):
        with self.assertRaises(errors.HalfError) as caught:
            read("")
        for name in ALL:
            self.assertEqual(isinstance(caught.exception, getattr(errors, name)), name == "NoText")

    def test_empty_texts_and_rows(self):
        self.none("", "\n", "\n\n", " ", " \n", "\t\n", "f = 1\n\n", "\nf = 1\n", "f = 1\n\ng = 1\n", "f = 1\n \n")

    def test_line_ends(self):
        self.none("f = 1", "f = 1\ng = 2", "f = 1 g = 2\n", "f =\n1\n", "f = (list\n1)\n", "f\n= 1\n", "f = 1\r\n",
                  "f = [1\n2]\n")

    def test_blanks(self):
        self.none(" f = 1\n", "f = 1 \n", "f  = 1\n", "f =  1\n", "f= 1\n", "f =1\n", "f=1\n", "f  x = x\n",
                  "f x  = x\n", "f x= x\n", "f\t= 1\n", "f =\t1\n", "f = 1\t\n", "\tf = 1\n", "f x\ty = x\n")
        self.bodies("(list  1)", "( list 1)", "(list 1 )", "(list 1 (list  2))", "(list 1(list 2))", "(list (list)1)",
                    "(list (list)(list))", "(list\t1)", "( list)", "(list )", "( g)", "[1  2]", "[ 1 2]", "[1 2 ]",
                    "[ ]", "[[1][2]]", "[1[2]]", "[[1]2]", "[1\t2]", "(list[1])", "(list [1][2])", "(first [1] )",
                    "(refuse  NoList)", "(refuse NoList )", "(refuseNoList)", "(if 1 2  3)", "(list1)", "(list x1)")

    def test_brackets(self):
        self.bodies("(", ")", "[", "]", "()", "(()", "())", "(list 1", "list 1)", "list 1", "(list 1))", "((list 1)",
                    "((list 1))", "(list 1]", "[list 1)", "[list 1]", "[1 2)", "(1 2]", "(1 2)", "(1)", "[1 2", "1 2]",
                    "[1 2]]", "[[1 2]", "(x)", "((g))", "((g) 1)", "([1] 2)", "(list (1)", "(list [1)]", "[(list 1)]",
                    "[x]", "[1 x]", "[(g)]", "[g]", "[(refuse NoList)]", "[list]", "[[x]]", "[1 [2 (list)]]", "[)",
                    "(]", ")(", "][", "{}", "<1>", "{list 1}", "[(if)]", "((if) 1)", "((if))", "(if)", "[()]")

    def test_equals(self):
        self.none("f 1\n", "f (list)\n", "f = = 1\n", "= f = 1\n", "f = 1 =\n", "= 1\n", "f == 1\n", "f =\n", "f\n",
                  "=\n", "= =\n", "f = x = 1\n", "f x = y = x\n", "f = (list = 1)\n", "f : 1\n", "f x = (= x x)\n",
                  "f = [1 = 2]\n", "f = [=]\n")

    def test_the_order_of_a_row(self):
        self.none("= f 1\n", "1 = f\n", "f 1 =\n", "1 f =\n", "x f = (f x)\n", "f = x x\n", "f = 1 x\n",
                  "(list x) = f x\n", "f = x 1\n", "(f x) = x\n", "f (x) = x\n", "f [x] = x\n", "f x, y = x\n")

    def test_numbers(self):
        self.bodies("00", "01", "-0", "-01", "--1", "-", "+1", "+0", "1_000", "1.0", "1e3", "0x1", "1a", "1-", "1-1",
                    "- 1", "-x", "1,000", "001", "-00", "[01]", "[-0]", "[+1]", "[1_0]", "[1.]", "[-]", "[--1]")

    def test_numbers_at_the_bound(self):
        self.bodies(str(10 ** 18), str(-10 ** 18), str(10 ** 18 + 1), str(10 ** 40), "9" * 19, "1" * 6000,
                    "-" + "1" * 6000, f"[{10 ** 18}]", f"[1 [{-10 ** 18}]]", "[" + "7" * 6000 + "]", "0" * 6000,
                    "0" * 18 + "1")

    def test_lists_that_are_too_heavy(self):
        self.bodies("[" + "0 " * 49 + "0]", "[" * 51 + "]" * 51, "[" + "[] " * 49 + "[]]", "[" + "0 " * 9000 + "0]")

    def test_words_that_are_none(self):
        self.bodies("(refuse)", "(refuse TooLong)", "(refuse NotKept)", "(refuse NoText)", "(refuse HalfError)",
                    "(refuse nolist)", "(refuse NOLIST)", "(refuse NoList NoList)", "(refuse 1)", "(refuse x)",
                    "(refuse [])", "(refuse (list))", "(refuse (refuse NoList))", "(refuse (if))", "(refuse (NoList))",
                    "(refuse [NoList])", "refuse", "NoList", "(NoList)", "(refuse -)", "(refuse ())")

    def test_another_number_of_parts(self):
        self.bodies("(if)", "(if 1)", "(if 1 2)", "(if 1 2 3 4)", "if", "(plus)", "(plus 1)", "(plus 1 2 3)", "(down)",
                    "(down 1 2)", "(first)", "(rest 1 2)", "(empty)", "(same 1)", "(join 1)", "(over 1)", "(less 1)",
                    "(times 1)", "(minus 1)", "(list 1 2 3 4 5 6 7 8 9)", "(f)", "(f 1 2)", "(g 1)", "list", "plus")

    def test_functions_and_names_that_are_not_there(self):
        self.bodies("(h)", "(x 1)", "(h 1)", "(Plus 1 2)", "(values 1)", "(do plus 1 2)", "(call g)", "(value 1)",
                    "(name x)", "y", "f", "g", "X", "x1", "'x'", '"x"', "x_", "~", "(~)", "None", "True")
        self.none("f x = x\ng = x\n", "g = x\nf x = x\n")

    def test_great_letters_and_names_that_are_none(self):
        self.none("F = 1\n", "fF = 1\n", "f X = 1\n", "f x = X\n", "1f = 1\n", "plus = 1\n", "if = 1\n", "refuse = 1\n",
                  "f if = 1\n", "f list = 1\n", "f 1 = 1\n", "abcdefghi = 1\n", "f abcdefghi = 1\n", "f_ = 1\n",
                  "f a-b = 1\n", "f -1 = 1\n", "f [] = 1\n", "() = 1\n", "(f) = 1\n", "[f] = 1\n")

    def test_twice(self):
        self.none("f x x = x\n", "f x y x = x\n", "f = 1\nf = 1\n", "f = 1\ng = 1\nf x = 1\n", "f = 1\nf x = x\n")

    def test_seven_parameters(self):
        self.assertEqual(len(read("f a b c d e g = 1\n")[0][1]), 6)
        self.none("f a b c d e g h = 1\n")

    def test_a_body_that_is_too_deep(self):
        for deep in (20, 21, 40, 5000):
            self.none("f x = " + "(down " * deep + "x" + ")" * deep + "\n",
                      "f x = " + "(if " * deep + "x" + " 1 2)" * deep + "\n",
                      "f x = " + "(f " * deep + "x" + ")" * deep + "\n",
                      "f x = " + "(list" + " (list" * deep + ")" * deep + ")\n")

    def test_thousands_of_brackets(self):
        for one, other in ("()", "[]", "(]", "[)", ")(", "][", ("(list ", ")"), ("(list (", "))"), ("(", " x)"),
                           ("([", "])"), ("[(", ")]"), ("(refuse ", ")"), ("[1 ", "]"), ("(if 1 2 ", ")")):
            for many in (3000, 9000):
                for text in (one * many, other * many, one * many + other * many, one * many + "1" + other * many,
                             one * many + other * (many - 1), (one + other) * many, one + other * many):
                    self.none(text, f"{text}\n", f"f = {text}\n", f"{text} = 1\n", f"f {text} = 1\n",
                              f"f x = x{text}\n")

    def test_what_is_left_out_of_a_good_text_or_put_into_it(self):
        text = PAIRS[0][1] + "f = (list [1 [-2]] (refuse NoList))\n"
        good = 0
        for at in range(len(text)):
            for sign in ("", " ", "\n", "\t", "(", ")", "[", "]", "=", "0", "-", "x", "X", "_", "~"):
                for changed in (text[:at] + sign + text[at + 1:], text[:at] + sign + text[at:]):
                    try:
                        program = read(changed)
                    except errors.NoText:
                        continue
                    good += 1
                    self.assertEqual(shown(program), changed)
        self.assertGreater(good, 20)


if __name__ == "__main__":
    unittest.main()
