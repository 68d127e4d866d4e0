"""Points 9, 10 and 11: what is left over; points 1 and 2 to 6 of it."""

import unittest

from halfrun import errors
from halfrun.halving import cases, left_over, numbered_name
from halfrun.programs import is_name
from halfrun.running import run
from halfrun.texts import shown
from helping import GREAT, WORDS, Case, nested, outcome, rows

POWER = rows("power n x = (if n (times x (power (down n) x)) 1)")
KNOWN_N = {"power": (True, False)}
MOSTS = (0, 1, 2, 3, 5, 8, 3000)


def named(program_left, *names):
    """The program left over with its functions named so, as a text."""
    olds = [function[0] for function in program_left]
    table = dict(zip(olds, names, strict=True))

    def renamed(expression):
        match expression:
            case ("if", test, one, other):
                return ("if", renamed(test), renamed(one), renamed(other))
            case ("do", operation, parts):
                return ("do", operation, tuple(map(renamed, parts)))
            case ("call", name, parts):
                return ("call", table[name], tuple(map(renamed, parts)))
        return expression

    return shown(tuple((table[name], parameters, renamed(body)) for name, parameters, body in program_left))


def calls_in(expression):
    """The names of the calls in an expression from the left, a call behind those within its parts."""
    match expression:
        case ("if", *parts):
            return [name for part in parts for name in calls_in(part)]
        case ("do", _, parts):
            return [name for part in parts for name in calls_in(part)]
        case ("call", name, parts):
            return [inner for part in parts for inner in calls_in(part)] + [name]
    return []


class NotKeptTest(Case):
    def test_a_sorting_that_is_not_kept(self):
        for texts, sorting, known in (
                (("f x y = (f (plus x 1) y)",), {"f": (True, False)}, (1,)),
                (("f x y = (f y y)",), {"f": (True, False)}, (1,)),
                (("f x y = (if 1 2 (f y y))",), {"f": (True, False)}, (1,)),
                (("f x y = (f (first (f x y)) y)",), {"f": (True, False)}, (1,)),
                (("f x = 1", "g x = (g (list x))"), {"f": (False,), "g": (True,)}, ()),
                (("f x = (plus 1 (g x))", "g x = x"), {"f": (False,), "g": (True,)}, ())):
            for function in (left_over, cases):
                self.same(self.ask(function, rows(*texts), sorting, known), ("refused", "NotKept"))
        with self.assertRaises(errors.NotKept):
            left_over(rows("f x y = (f y y)"), {"f": (True, False)}, (1,))

    def test_not_kept_is_a_half_error(self):
        with self.assertRaises(errors.HalfError):
            cases(rows("f x y = (f y y)"), {"f": (True, False)}, (1,))

    def test_a_known_part_that_refuses_does_not_refuse_the_making(self):
        for word in WORDS:
            program = rows(f"f x = (if 1 (refuse {word}) (f (refuse {word})))")
            self.same(self.left(program, {"f": (True,)}, (1,))[0][1:], ((), ("refuse", word)))


class PowerTest(Case):
    def test_left_over(self):
        program_left = self.left(POWER, KNOWN_N, (3,))
        self.assertEqual(named(program_left, "a", "b", "c", "d"),
                         "a x = (times x (b x))\nb x = (times x (c x))\nc x = (times x (d x))\nd x = 1\n")
        self.assertEqual(self.cases_of(POWER, KNOWN_N, (3,)), [("power", (n,)) for n in (3, 2, 1, 0)])

    def test_a_number_below_nought_and_a_list(self):
        self.assertEqual(named(self.left(POWER, KNOWN_N, (-2,)), "a"), "a x = (times x (refuse NoDown))\n")
        self.assertEqual(named(self.left(POWER, KNOWN_N, ((1,),)), "a"), "a x = (refuse NoNumber)\n")

    def test_the_answers(self):
        for n in (0, 1, 2, 5, 19, -1, (), (1,)):
            program_left = self.left(POWER, KNOWN_N, (n,))
            for x in (0, 1, -3, 10, 10 ** 17, ()):
                for most in MOSTS:
                    self.same(outcome(run, program_left, (x,), most), outcome(run, POWER, (n, x), most))

    def test_all_and_nothing_known(self):
        self.assertEqual(named(self.left(POWER, {"power": (False, False)}, ()), "power"), shown(POWER))
        self.assertEqual(named(self.left(POWER, {"power": (True, True)}, (1, 5)), "a", "b"),
                         "a = (times 5 (b))\nb = 1\n")
        self.assertEqual(named(self.left(POWER, {"power": (False, True)}, (5,)), "a"),
                         "a n = (if n (times 5 (a (down n))) 1)\n")


class RowsTest(Case):
    """Each row of point 11; k and l are known, u and v are not; f's first parameter is known, h's second is."""

    known = (3, (7, (8,)))
    sorting = {"m": (True, False, True, False), "f": (True, False), "h": (False, True, False, True), "g": ()}

    def check(self, text, left, *found, known=known):
        """The text as a main body leaves that over, and these cases' functions behind the main one."""
        program = rows(f"m k u l v = {text}", "f a b = (list a b)", "h a b c d = 5", "g = 6")
        names = ("m", *(f"w{at}" for at in range(len(found))))
        program_left = self.left(program, self.sorting, known)
        self.assertEqual(program_left[0][1], ("u", "v"))
        self.assertEqual(len(program_left), len(names), shown(program_left))
        self.assertEqual(named(program_left, *names).split("\n")[0], f"m u v = {left}")
        self.same(self.cases_of(program, self.sorting, known), [("m", known), *found])

    def test_values_refuses_and_names(self):
        for text in ("5", "[1 [2]]", "(refuse NoList)", "u", "v"):
            self.check(text, text)
        self.check("k", "3")
        self.check("l", "[7 [8]]")
        self.check("k", "[]", known=((), 1))

    def test_ifs_that_are_led(self):
        for number in (1, -1, GREAT):
            self.check("(if k u (f 1 v))", "u", known=(number, 0))
        self.check("(if k (f 1 v) u)", "u", known=(0, 0))
        self.check("(if (less k 3) u v)", "v")
        self.check("(if (less k 4) u v)", "u")
        self.check("(if l u v)", "(refuse NoNumber)")
        self.check("(if [] u (g))", "(refuse NoNumber)")
        for word in WORDS:
            self.check(f"(if (refuse {word}) u (g))", f"(refuse {word})")
        self.check("(if (first k) u (g))", "(refuse NoList)")
        self.check("(if k (if (first l) (if 0 1 u) 2) 3)", "u")
        self.check("(if k (refuse NoDown) u)", "(refuse NoDown)")

    def test_ifs_that_are_not(self):
        self.check("(if u k l)", "(if u 3 [7 [8]])")
        self.check("(if u (refuse NoList) (plus k 1))", "(if u (refuse NoList) 4)")
        self.check("(if (less k u) (if k u v) (if l u v))", "(if (less 3 u) u (refuse NoNumber))")
        self.check("(if (if u 1 2) 3 4)", "(if (if u 1 2) 3 4)")
        self.check("(if (g) (g) k)", "(if (w0) (w0) 3)", ("g", ()))
        self.check("(if u 1 1)", "(if u 1 1)")

    def test_dos_of_values(self):
        for text, left in (("(plus k 1)", "4"), ("(list)", "[]"), ("(list k l)", "[3 [7 [8]]]"), ("(first l)", "7"),
                           ("(rest (rest l))", "[]"), ("(empty l)", "0"), ("(same k 3)", "1"), ("(over -7 2)", "-4"),
                           ("(join k l)", "[3 7 [8]]"), ("(down (down k))", "1"), ("(less k k)", "0"),
                           ("(times k (minus k 5))", "-6")):
            self.check(text, left)

    def test_dos_of_values_that_refuse(self):
        for text, word in (("(plus k l)", "NoNumber"), ("(first k)", "NoList"), ("(rest [])", "NoFirst"),
                           ("(down 0)", "NoDown"), ("(down l)", "NoNumber"), ("(over k 0)", "ByNought"),
                           ("(over l 0)", "NoNumber"), ("(times k 999999999999999999)", "TooGreat"),
                           ("(join k k)", "NoList"), ("(first (rest (rest l)))", "NoFirst"),
                           (f"(list {shown((('f', (), ('value', nested(50))),))[4:-1]})", "TooGreat")):
            self.check(text, f"(refuse {word})")

    def test_dos_with_a_refuse(self):
        for word in WORDS:
            self.check(f"(plus (refuse {word}) u)", f"(refuse {word})")
            self.check(f"(plus (refuse {word}) (g))", f"(refuse {word})")
            self.check(f"(plus l (refuse {word}))", f"(refuse {word})")
            self.check(f"(list k l (refuse {word}) u (g))", f"(refuse {word})")
            self.check(f"(list u (refuse {word}) (refuse NoList))", f"(list u (refuse {word}) (refuse NoList))")
            self.check(f"(list k (g) (refuse {word}) (f k u))", f"(list 3 (w0) (refuse {word}) (w1 u))",
                       ("g", ()), ("f", (3,)))
        self.check("(plus (down 0) u)", "(refuse NoDown)")
        self.check("(plus u (down 0))", "(plus u (refuse NoDown))")
        self.check("(plus (plus k (first k)) (refuse NoDown))", "(refuse NoList)")

    def test_dos_of_what_is_not_known(self):
        self.check("(plus u k)", "(plus u 3)")
        self.check("(plus (plus k 1) (plus u (first l)))", "(plus 4 (plus u 7))")
        self.check("(list k u l v)", "(list 3 u [7 [8]] v)")
        self.check("(first (list k u))", "(first (list 3 u))")
        self.check("(times 0 u)", "(times 0 u)")
        self.check("(same u u)", "(same u u)")

    def test_calls(self):
        self.check("(f k u)", "(w0 u)", ("f", (3,)))
        self.check("(f l k)", "(w0 3)", ("f", ((7, (8,)),)))
        self.check("(f (first (rest l)) (plus k u))", "(w0 (plus 3 u))", ("f", ((8,),)))
        self.check("(h u k v (down k))", "(w0 u v)", ("h", (3, 2)))
        self.check("(h 1 k 2 9)", "(w0 1 2)", ("h", (3, 9)))
        self.check("(g)", "(w0)", ("g", ()))
        self.check("(m k u l v)", "(m u v)")
        self.check("(m k v l u)", "(m v u)")
        self.check("(m (down k) v l u)", "(w0 v u)", ("m", (2, (7, (8,)))), ("m", (1, (7, (8,)))),
                   ("m", (0, (7, (8,)))))

    def test_calls_with_a_refuse_in_a_known_place_behind_values(self):
        for word in WORDS:
            self.check(f"(f (refuse {word}) u)", f"(refuse {word})")
            self.check(f"(f (refuse {word}) (g))", f"(refuse {word})")
            self.check(f"(f (refuse {word}) (refuse NoList))", f"(refuse {word})")
            self.check(f"(h k (refuse {word}) (g) 1)", f"(refuse {word})")
            self.check(f"(h k l l (refuse {word}))", f"(refuse {word})")
        self.check("(f (down 0) u)", "(refuse NoDown)")
        self.check("(f (first (rest (rest l))) u)", "(refuse NoFirst)")
        self.check("(f (down l) u)", "(refuse NoNumber)")

    def test_calls_with_a_refuse_in_a_known_place_behind_others(self):
        for word in WORDS:
            self.check(f"(h u (refuse {word}) v 1)", f"(list u (refuse {word}))")
            self.check(f"(h u (refuse {word}) (g) 1)", f"(list u (refuse {word}))")
            self.check(f"(h u k v (refuse {word}))", f"(list u v (refuse {word}))")
            self.check(f"(h 1 k v (refuse {word}))", f"(list 1 v (refuse {word}))")
            self.check(f"(h v k 1 (refuse {word}))", f"(list v 1 (refuse {word}))")
            self.check(f"(h (g) k u (refuse {word}))", f"(list (w0) u (refuse {word}))", ("g", ()))
            self.check(f"(h u k (refuse NoList) (refuse {word}))", f"(list u (refuse NoList) (refuse {word}))")
            self.check(f"(h u (refuse {word}) (refuse NoList) (refuse NoDown))", f"(list u (refuse {word}))")
        self.check("(h (plus u 999999999999999999) (down 0) v 1)", "(list (plus u 999999999999999999) (refuse NoDown))")
        self.check("(h (f l u) (first k) v 1)", "(list (w0 u) (refuse NoList))", ("f", ((7, (8,)),)))

    def test_calls_with_a_refuse_in_an_unknown_place(self):
        for word in WORDS:
            self.check(f"(f k (refuse {word}))", f"(refuse {word})")
            self.check(f"(h (refuse {word}) k (g) 1)", f"(refuse {word})")
            self.check(f"(h (refuse {word}) (refuse NoList) (g) 1)", f"(refuse {word})")
            self.check(f"(h l k (refuse {word}) 1)", f"(refuse {word})")
            self.check(f"(h l k (refuse {word}) (refuse NoDown))", f"(refuse {word})")
            self.check(f"(h u k (refuse {word}) 1)", f"(w0 u (refuse {word}))", ("h", (3, 1)))
            self.check(f"(h (g) k (refuse {word}) 1)", f"(w1 (w0) (refuse {word}))", ("g", ()), ("h", (3, 1)))

    def test_a_refuse_is_handed_on(self):
        self.check("(plus (f (down 0) u) v)", "(refuse NoDown)")
        self.check("(if (f k (first k)) u v)", "(refuse NoList)")
        self.check("(h u k (f (down 0) u) k)", "(w0 u (refuse NoDown))", ("h", (3, 3)))
        self.check("(plus (h u (down 0) v k) (refuse NoList))", "(plus (list u (refuse NoDown)) (refuse NoList))")

    def test_what_is_done_away_with_has_no_cases(self):
        self.check("(if k u (f k (g)))", "u")
        self.check("(if 0 (f k (g)) u)", "u")
        self.check("(if (first k) (f k (g)) (g))", "(refuse NoList)")
        self.check("(if l (f k (g)) (g))", "(refuse NoNumber)")
        self.check("(plus (first k) (f k (g)))", "(refuse NoList)")
        self.check("(f (first k) (g))", "(refuse NoList)")
        self.check("(h u (first k) (g) (refuse NoDown))", "(list u (refuse NoList))")
        self.check("(h (first k) k (g) k)", "(refuse NoList)")


class CasesTest(Case):
    def check(self, program, sorting, known):
        """What point 10 says of every program left over; answers the cases."""
        program_left = self.left(program, sorting, known)
        triples = cases(program, sorting, known)
        functions = {function[0]: function for function in program}
        self.assertEqual(triples[0][1:], (program[0][0], known))
        self.assertEqual(len({repr(triple[1:]) for triple in triples}), len(triples))
        order = [triples[0][0]]
        for (name, parameters, body), triple in zip(program_left, triples, strict=True):
            self.assertIs(type(triple), tuple)
            self.assertEqual(name, triple[0])
            self.assertTrue(is_name(name))
            of = functions[triple[1]]
            self.assertEqual(len(triple[2]), sum(sorting[of[0]]))
            self.assertEqual(parameters, tuple(p for p, k in zip(of[1], sorting[of[0]]) if not k))
            order.extend(called for called in calls_in(body) if called not in order)
        self.assertEqual(order, [triple[0] for triple in triples])
        return [triple[1:] for triple in triples]

    def test_the_order(self):
        sorting = {"f": (False,), "g": (True, False), "h": ()}
        g = "g a b = b"
        for text, values in (
                ("(list (g 1 x) (g 2 x) (g 1 x) (g 3 x))", (1, 2, 3)),
                ("(g 1 (g 2 (g 3 x)))", (3, 2, 1)),
                ("(g 1 (plus (g 2 x) (g 3 (g 4 x))))", (2, 4, 3, 1)),
                ("(if (g 3 x) (g 1 x) (g 2 x))", (3, 1, 2)),
                ("(if x (g 2 (g 1 x)) (if (g 5 x) (g 4 x) (g 3 (g 6 x))))", (1, 2, 5, 4, 6, 3)),
                ("(list x (refuse NoList) (g 9 x))", (9,))):
            self.same(self.check(rows(f"f x = {text}", g, "h = 1"), sorting, ()),
                      [("f", ())] + [("g", (value,)) for value in values])

    def test_function_by_function(self):
        program = rows("f x = (list (g x) (h x))", "g x = (list (j 1 x) (k x))", "h x = (list (j 2 x) (j 1 x))",
                       "j n x = (if n (j (down n) x) (h x))", "k x = (f x)", "l x = (l x)")
        sorting = {"f": (False,), "g": (False,), "h": (False,), "j": (True, False), "k": (False,), "l": (False,)}
        self.same(self.check(program, sorting, ()),
                  [("f", ()), ("g", ()), ("h", ()), ("j", (1,)), ("k", ()), ("j", (2,)), ("j", (0,))])

    def test_parameters_are_the_unknown_ones_in_their_order(self):
        program = rows("m a b c d e g = (m a b c d e g)")
        for sorting in ((True, False, True, False, True, False), (False, True, True, True, False, False),
                        (False,) * 6, (True,) * 6, (True, False, False, False, False, True)):
            known = tuple(range(sum(sorting)))
            left = self.left(program, {"m": sorting}, known)
            self.assertEqual(left[0][1], tuple(p for p, k in zip("abcdeg", sorting) if not k))
            self.assertEqual(self.check(program, {"m": sorting}, known), [("m", known)])

    def test_a_count_down(self):
        program = rows("f n x = (if n (plus x (f (down n) x)) 0)")
        sorting = {"f": (True, False)}
        for many in (300, 800):
            self.same(self.check(program, sorting, (many,)), [("f", (n,)) for n in range(many, -1, -1)])
            left = left_over(program, sorting, (many,))
            self.assertEqual(run(left, (2,), many), 2 * many)
            self.assertEqual(outcome(run, left, (2,), many - 1), ("refused", "TooLong"))

    def test_very_many_functions(self):
        program = rows("f n m x = (if n (f (down n) m x) (if m (f 40 (down m) x) x))")
        sorting = {"f": (True, True, False)}
        left = left_over(program, sorting, (40, 99))
        self.assertEqual(len(left), 4100)
        self.assertEqual(len({function[0] for function in left}), 4100)
        self.assertTrue(all(is_name(function[0]) for function in left))
        self.assertEqual(run(left, (7,), 4099), 7)
        self.assertEqual(outcome(run, left, (7,), 4098), ("refused", "TooLong"))

    def test_names_of_far_more_functions(self):
        numbers = [*range(50000), *range(26 ** 7 - 1000, 26 ** 7)]
        names = [numbered_name(number) for number in numbers]
        self.assertTrue(all(is_name(name) for name in names))
        self.assertEqual(len(set(names)), len(numbers))

    def test_a_number_and_the_list_of_it(self):
        program = rows("m x = (list (f 1 x) (f [1] x) (f [[1]] x) (f 1 x) (f [] x) (f [[]] x) (f [1 1] x) (f 11 x))",
                       "f a x = (list a x)")
        sorting = {"m": (False,), "f": (True, False)}
        self.same(self.check(program, sorting, ()), [("m", ())] + [
            ("f", (value,)) for value in (1, (1,), ((1,),), (), ((),), (1, 1), 11)])
        program = rows("m x = (list (f 1 [2] x) (f [1] 2 x) (f 1 2 x) (f [1 2] [] x) (f [1] [2] x) (f 12 0 x) "
                       "(f 1 20 x))", "f a b x = 0")
        self.assertEqual(len(self.check(program, {"m": (False,), "f": (True, True, False)}, ())), 8)

    def test_cases_of_two_functions(self):
        program = rows("m x = (list (f 1 x) (g 1 x) (f1 [] x) (g (first [1]) x))",
                       "f a x = 1", "g a x = 1", "f1 a x = 1")
        sorting = {"m": (False,), "f": (True, False), "g": (True, False), "f1": (True, False)}
        self.same(self.check(program, sorting, ()), [("m", ()), ("f", (1,)), ("g", (1,)), ("f1", ((),))])

    def test_deep_lists(self):
        program = rows("f l x = (if (empty l) x (f (first l) (list x)))")
        sorting = {"f": (True, False)}
        found = self.check(program, sorting, (nested(50),))
        self.same(found, [("f", (nested(many),)) for many in range(50, 0, -1)])
        self.assertEqual(run(left_over(program, sorting, (nested(49),)), (1,), 48), run(program, (nested(49), 1), 48))

    def test_the_main_case_is_come_to_again(self):
        program = rows("f n x = (if (less x 1) n (g n (down x)))", "g n x = (list (f n x) (f 2 x))")
        sorting = {"f": (True, False), "g": (True, False)}
        self.same(self.check(program, sorting, (5,)), [("f", (5,)), ("g", (5,)), ("f", (2,)), ("g", (2,))])

    def test_functions_that_are_not_called_are_not_left_over(self):
        program = rows("f x = (if 1 x (g x))", "g x = (h x)", "h x = x")
        self.same(self.check(program, {"f": (False,), "g": (False,), "h": (False,)}, ()), [("f", ())])

    def test_the_list_is_the_askers_own(self):
        first = cases(POWER, KNOWN_N, (3,))
        copied = list(first)
        self.assertIs(type(first), list)
        first.clear()
        second = cases(POWER, KNOWN_N, (3,))
        self.same(second, copied)
        second[0] = None
        second.append(1)
        left_over(POWER, KNOWN_N, (3,))
        third = cases(POWER, KNOWN_N, (3,))
        cases(POWER, KNOWN_N, (2,))
        self.same(third, copied)
        self.assertEqual([function[0] for function in left_over(POWER, KNOWN_N, (3,))], [row[0] for row in third])


class AnswersTest(Case):
    def check(self, program, sorting, known_inputs, unknown_inputs):
        """The whole program and what is left over tell the same."""
        for known in known_inputs:
            program_left = self.left(program, sorting, known)
            for unknown in unknown_inputs:
                waiting = {True: list(known), False: list(unknown)}
                both = tuple(waiting[is_known].pop(0) for is_known in sorting[program[0][0]])
                for most in MOSTS:
                    self.same(outcome(run, program_left, unknown, most), outcome(run, program, both, most))

    def test_known_parts_that_refuse_behind_unknown_ones(self):
        program = rows("m k u = (list u (f u k))", "f u k = (g u (down k) u k)", "g a b c d = (list a b c d)")
        self.check(program, {"m": (True, False), "f": (False, True), "g": (False, True, False, True)},
                   ((0,), (2,), (-1,), ((),), ((1,),)), ((1,), ((),)))
        for ahead in ("1", "u", "(refuse NoList)", "(first u)", "(j u)", "(loop)", "(plus u 999999999999999999)"):
            for behind in ("(first k)", "(down k)", "(rest (rest k))", "(refuse ByNought)", "(down (first k))"):
                program = rows(f"m k u = (f {ahead} {behind} (j u) 1)", "f a b c d = (list a b c d)",
                               "j u = (over 9 u)", "loop = (loop)")
                sorting = {"m": (True, False), "f": (False, True, False, True), "j": (False,), "loop": ()}
                self.check(program, sorting, ((0,), (1,), ((),), ((3,),), ((4, 5),), (((), 1),)),
                           ((0,), (1,), ((),), ((1, 2),)))

    def test_lists_and_numbers(self):
        program = rows("m l x = (if (empty l) x (m (rest l) (one (first l) x)))",
                       "one n x = (if (less n 0) (minus x n) (if n (plus 1 (one (down n) x)) x))")
        sorting = {"m": (True, False), "one": (True, False)}
        self.check(program, sorting, (((),), ((3, -2, 4),), ((0, 0),), ((1, (2,), 3),), (((),),), (5,)),
                   ((0,), (5,), (GREAT,), ((),)))
        self.check(program, {"m": (False, False), "one": (False, False)}, ((),), (((3, -2), 1), (1, 1), ((1,), ())))

    def test_an_interpreter(self):
        """A little machine's steps are a known list; what is left over is the steps without the list."""
        program = rows("m s x y = (if (empty s) (list x y) (step (first s) (rest s) x y))",
                       "step o s x y = (if o (if (down o) (if (down (down o)) (if x (m s x (step 1 [] y x)) (m s y x))"
                       " (m s (times x y) y)) (m s (plus x y) y)) (m s y x))")
        sorting = {"m": (True, False, False), "step": (True, True, False, False)}
        self.check(program, sorting, (((),), ((0,),), ((1, 2, 0, 1),), ((3, 2, 3, 0),), ((2, 2, 2, 2, -1, 0),)),
                   ((1, 2), (0, 5), (10 ** 9, 10 ** 9), ((), 1)))

    def test_endless(self):
        program = rows("m n x = (if n (m n (plus x 1)) (m 0 x))")
        self.check(program, {"m": (True, False)}, ((0,), (1,), ((),)), ((0,), ((),)))
        self.assertEqual(self.cases_of(program, {"m": (True, False)}, (1,)), [("m", (1,))])

    def test_two_steps(self):
        program = rows("m n l x = (if n (list (m (down n) l x) (g l x)) (g l n))",
                       "g l x = (if (empty l) x (plus (first l) (g (rest l) x)))")
        for n in (0, 1, 2, -1, ()):
            for numbers in ((), (1, 2), (1, (), 2), 7):
                one = self.left(program, {"m": (True, True, False), "g": (True, False)}, (n, numbers))
                first = self.left(program, {"m": (True, False, False), "g": (False, False)}, (n,))
                sorting = {name: tuple(parameter == "l" for parameter in parameters) for name, parameters, _ in first}
                second = self.left(first, sorting, (numbers,))
                for x in (0, 5, ()):
                    for most in MOSTS:
                        told = outcome(run, program, (n, numbers, x), most)
                        self.same(outcome(run, one, (x,), most), told)
                        self.same(outcome(run, first, (numbers, x), most), told)
                        self.same(outcome(run, second, (x,), most), told)

    def test_known_lists_are_still_those_handed_in(self):
        value = (1, (2, 3))
        left = self.left(rows("f a b = (list a (first (rest a)) b)"), {"f": (True, False)}, (value,))
        self.same(left[0][2], ("do", "list", (("value", value), ("value", (2, 3)), ("name", "b"))))
        self.same(value, (1, (2, 3)))
        self.same(run(left, (9,), 0), (value, (2, 3), 9))


class BeyondTest(Case):
    def test_a_body_somewhat_too_deep(self):
        deep = ("name", "x")
        for _ in range(60):
            deep = ("do", "plus", (("name", "k"), deep))
        program = (("f", ("k", "x"), deep),)
        told, left = self.ask(left_over, program, {"f": (True, False)}, (2,))
        self.assertEqual(told, "value")
        self.assertEqual(run(left, (1,), 0), 121)

    def test_known_inputs_somewhat_too_great(self):
        for value in (10 ** 18, -10 ** 19, nested(70), (1,) * 60):
            told, left = self.ask(left_over, rows("f k = (if 1 k (f k))"), {"f": (True,)}, (value,))
            self.same((told, left[0][1:]), ("value", ((), ("value", value))))


if __name__ == "__main__":
    unittest.main()
