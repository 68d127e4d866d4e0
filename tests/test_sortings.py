"""Point 8: what is tame, and which programs keep a sorting; point 1 of it."""

import unittest

from halfrun.sortings import keeps
from helping import WORDS, Case, rows

TAME = ("0", "-7", "999999999999999999", "[]", "[1 [2 []]]", *(f"(refuse {word})" for word in WORDS),
        "k", "l", "(first k)", "(rest k)", "(down k)", "(first (rest (rest k)))", "(down (first (down (rest l))))",
        "(first [1 2])", "(rest 5)", "(down 0)", "(down (refuse NoList))", "(first (rest []))")
NOT_TAME = ("u", "v", "(first u)", "(rest u)", "(down u)", "(first (rest u))", "(down (first (down v)))",
            "(plus 1 2)", "(minus k 1)", "(times k k)", "(over 4 2)", "(less 1 2)", "(same k l)", "(join k [])",
            "(empty k)", "(empty [])", "(list)", "(list k)", "(list 1 2)",
            "(down (plus 1 2))", "(first (list k))", "(first (join k l))", "(rest (empty k))",
            "(if 1 2 3)", "(if k k k)", "(first (if k k k))", "(g)", "(first (g))", "(f k k u)", "(down (f k k u))")
# Where a call may stand; in each the rest is tame, or stands where it does not matter.
PLACES = ("{}", "(if {} 1 2)", "(if 1 {} 2)", "(if 1 2 {})", "(down {})", "(plus {} u)", "(plus u {})",
          "(list 1 2 3 {})", "(f k l {})", "(f 1 2 (f k l {}))", "(if (if (list (f k l {})) 1 2) 3 4)",
          "(plus (f k k u) (if (g) u (times 2 {})))")


class KeepsTest(Case):
    def check(self, program, sorting, answer):
        self.same(self.ask(keeps, program, sorting), ("value", answer))

    def call(self, text, answer):
        """The call in every place: in the main function, in one behind it, and in one that no one calls."""
        for place in PLACES:
            called = place.format(text)
            sorting = {"f": (True, True, False), "g": (), "m": (True, False, True, False)}
            f = "f a b x = (list a b x)"
            m = f"m k u l v = {called}"
            for texts in ((m, f, "g = 0"), (f, m, "g = 0"), ("g = 0", f, m)):
                self.check(rows(*texts), sorting, answer)

    def test_tame_parts(self):
        for part in TAME:
            self.call(f"(f {part} k u)", True)
            self.call(f"(f l {part} u)", True)

    def test_parts_that_are_not_tame(self):
        for part in NOT_TAME:
            self.call(f"(f {part} k u)", False)
            self.call(f"(f l {part} u)", False)

    def test_parts_in_places_that_are_not_known(self):
        for part in (*TAME, *NOT_TAME):
            self.call(f"(f l k {part})", True)

    def test_a_call_that_is_not_kept_within_the_parts_of_one_that_is(self):
        self.call("(f k l (f k l (f u k l)))", False)
        self.call("(f k l (f k l (f k l u)))", True)

    def test_a_parameter_is_known_in_its_own_function_only(self):
        program = rows("f x = (g x)", "g x = (f x)")
        self.check(program, {"f": (True,), "g": (True,)}, True)
        self.check(program, {"f": (False,), "g": (False,)}, True)
        self.check(program, {"f": (True,), "g": (False,)}, False)
        self.check(program, {"f": (False,), "g": (True,)}, False)

    def test_nothing_is_called(self):
        program = rows("f x y = (plus x (if y 1 2))")
        for sorting in ((True, True), (True, False), (False, True), (False, False)):
            self.check(program, {"f": sorting}, True)

    def test_nothing_is_known(self):
        for part in (*TAME, *NOT_TAME):
            program = rows(f"m k l u v = (f {part} {part} {part})", "f a b x = (g)", "g = 1")
            self.check(program, {"m": (False,) * 4, "f": (False,) * 3, "g": ()}, True)

    def test_all_is_known(self):
        sorting = {"f": (True, True)}
        self.check(rows("f x y = (plus x (f (down x) (rest y)))"), sorting, True)
        self.check(rows("f x y = (plus x (f (down x) (list y)))"), sorting, False)
        self.check(rows("f x y = (if (f x y) (f y x) (f 1 (refuse NoList)))"), sorting, True)
        self.check(rows("f x y = (if (f x y) (f y x) (f 1 (f x y)))"), sorting, False)

    def test_power(self):
        power = rows("power n x = (if n (times x (power (down n) x)) 1)")
        self.check(power, {"power": (True, False)}, True)
        self.check(power, {"power": (True, True)}, True)
        self.check(power, {"power": (False, False)}, True)
        self.check(power, {"power": (False, True)}, True)
        power = rows("power n x = (if n (times x (power (minus n 1) x)) 1)")
        self.check(power, {"power": (True, False)}, False)
        self.check(power, {"power": (False, True)}, True)

    def test_functions_without_parameters(self):
        self.check(rows("f = (list (g) (f))", "g = (f)"), {"f": (), "g": ()}, True)

    def test_the_order_of_the_sorting_does_not_matter(self):
        program = rows("f x = (g x)", "g x = 1", "h y = (g y)")
        for names in ("fgh", "hgf", "gfh"):
            self.check(program, {name: (True,) for name in names}, True)
            self.check(program, {name: (name != "h",) for name in names}, False)


if __name__ == "__main__":
    unittest.main()
