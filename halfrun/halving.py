"""What is left over of programs where some inputs are known."""

from halfrun.errors import ByNought, NoDown, NoFirst, NoList, NoNumber, NotKept, TooGreat
from halfrun.operations import done
from halfrun.programs import LETTERS
from halfrun.sortings import keeps, named_as
from halfrun.texts import shown_value


def outcome(operation, values):
    """Answer what an operation tells as a value, or its refusal as a refuse."""
    try:
        return ("value", done(operation, values))
    except NoNumber:
        return ("refuse", "NoNumber")
    except NoList:
        return ("refuse", "NoList")
    except NoFirst:
        return ("refuse", "NoFirst")
    except NoDown:
        return ("refuse", "NoDown")
    except ByNought:
        return ("refuse", "ByNought")
    except TooGreat:
        return ("refuse", "TooGreat")


def are_values(expressions):
    return all(expression[0] == "value" for expression in expressions)


def numbered_name(number):
    """Answer a name that no other number has; billions of them have one of at most 8 signs."""
    # No operation's name begins with this letter, and neither does if or refuse.
    name = "c"
    while number > 0:
        name += LETTERS[number % len(LETTERS)]
        number = number // len(LETTERS)
    return name


class Halving:
    """The cases that have been come to while a program is worked out."""

    def __init__(self, program, sorting):
        self.functions = {function[0]: function for function in program}
        self.sorting = sorting
        self.names = {}
        self.triples = []

    def name_of(self, function_name, known):
        """Answer the name of the function left over of a case, which is a new one the first time."""
        # Lists in a case may be deep, which a key must not be: the case's text is the key.
        case_text = f"{function_name} {shown_value(known)}"
        if case_text not in self.names:
            name = numbered_name(len(self.triples))
            self.names[case_text] = name
            self.triples.append((name, function_name, known))
        return self.names[case_text]

    def function_left(self, triple):
        """Answer the function left over of a case."""
        name, function_name, known = triple
        function = self.functions[function_name]
        scope = dict(zip(named_as(self.sorting, function, True), known))
        parameters = tuple(named_as(self.sorting, function, False))
        return (name, parameters, self.left_of(function[2], scope))

    def left_of(self, expression, scope):
        """Answer what is left over of an expression where scope tells what the known names stand for."""
        match expression:
            case ("name", name):
                return ("value", scope[name]) if name in scope else expression
            case ("if", test, one, other):
                return self.left_of_if(test, one, other, scope)
            case ("do", operation, parts):
                return self.left_of_do(operation, parts, scope)
            case ("call", function_name, parts):
                return self.left_of_call(function_name, parts, scope)
            case _:
                return expression

    def left_of_if(self, test, one, other, scope):
        told = self.left_of(test, scope)
        if told[0] == "refuse":
            return told
        if told[0] != "value":
            return ("if", told, self.left_of(one, scope), self.left_of(other, scope))
        if isinstance(told[1], tuple):
            return ("refuse", "NoNumber")
        return self.left_of(other if told[1] == 0 else one, scope)

    def left_of_do(self, operation, parts, scope):
        left = []
        for part in parts:
            told = self.left_of(part, scope)
            if told[0] == "refuse" and are_values(left):
                return told
            left.append(told)
        if are_values(left):
            return outcome(operation, [part[1] for part in left])
        return ("do", operation, tuple(left))

    def left_of_call(self, function_name, parts, scope):
        known = []
        left = []
        for part, is_known in zip(parts, self.sorting[function_name]):
            told = self.left_of(part, scope)
            if told[0] == "refuse" and are_values(left):
                return told
            if told[0] == "refuse" and is_known:
                # The call can't be made; what is ahead of the refuse may refuse sooner, or call.
                return ("do", "list", (*left, told))
            if is_known:
                known.append(told[1])
            else:
                left.append(told)
        return ("call", self.name_of(function_name, tuple(known)), tuple(left))


def halved(program, sorting, known):
    """Answer the program left over and the list of its functions' cases."""
    if not keeps(program, sorting):
        raise NotKept("a call has a part in a known place that is not tame")
    halving = Halving(program, sorting)
    halving.name_of(program[0][0], known)
    functions = []
    # Each function that is worked out may come to cases that stand behind all others then.
    while len(functions) < len(halving.triples):
        functions.append(halving.function_left(halving.triples[len(functions)]))
    return (tuple(functions), halving.triples)


def left_over(program, sorting, known):
    """Answer the program left over where the known parameters of the main function stand for these values."""
    return halved(program, sorting, known)[0]


def cases(program, sorting, known):
    """Answer for each function left over its name, that of the function that it comes of, and the known values."""
    return halved(program, sorting, known)[1]
