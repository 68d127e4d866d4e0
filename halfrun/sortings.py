"""Sortings, which tell of each function's parameters whether they are known."""

# What these tell of a known value is a part of it, or a number below it.
LESSENING = ("first", "rest", "down")


def named_as(sorting, function, known):
    """Answer those parameters of a function, in their order, that are known, or those that aren't."""
    name, parameters, _ = function
    return [parameter for parameter, is_known in zip(parameters, sorting[name]) if is_known == known]


def is_tame(expression, known_names):
    """Tell whether an expression is tame in a function whose known parameters have these names."""
    while expression[0] == "do" and expression[1] in LESSENING:
        expression = expression[2][0]
    if expression[0] == "name":
        return expression[1] in known_names
    return expression[0] in ("value", "refuse")


def within(expression):
    """Answer the expressions directly within an expression."""
    match expression:
        case ("if", test, one, other):
            return (test, one, other)
        case ("do", _, parts):
            return parts
        case ("call", _, parts):
            return parts
        case _:
            return ()


def has_tame_parts(expression, known_names, sorting):
    """Tell whether an expression, where it is a call, has tame parts in the places of known parameters."""
    if expression[0] != "call":
        return True
    for part, is_known in zip(expression[2], sorting[expression[1]]):
        if is_known and not is_tame(part, known_names):
            return False
    return True


def keeps_in(function, sorting):
    known_names = named_as(sorting, function, True)
    waiting = [function[2]]
    while waiting:
        expression = waiting.pop()
        if not has_tame_parts(expression, known_names, sorting):
            return False
        waiting.extend(within(expression))
    return True


def keeps(program, sorting):
    """Tell whether a program keeps a sorting of it."""
    return all(keeps_in(function, sorting) for function in program)
