"""Names, expressions, functions and programs."""

from halfrun.errors import WORDS
from halfrun.operations import is_operation, takes
from halfrun.values import is_value

LETTERS = "abcdefghijklmnopqrstuvwxyz"
FIGURES = "0123456789"
MOST_SIGNS = 8
MOST_PARAMETERS = 6
MOST_DEPTH = 20


def is_name(text):
    """Tell whether a text is a name."""
    if not 1 <= len(text) <= MOST_SIGNS or text[0] not in LETTERS:
        return False
    if is_operation(text) or text in ("if", "refuse"):
        return False
    return all(sign in LETTERS or sign in FIGURES for sign in text)


def are_unlike(names):
    return len(set(names)) == len(names)


def is_body(expression, depth, parameters, counts):
    """Tell whether an expression is one, at most so deep, of these parameters and calls.

    counts tells of each function's name how many parts its calls take.
    """
    if depth == 0 or not isinstance(expression, tuple):
        return False
    match expression:
        case ("value", value):
            return is_value(value)
        case ("name", name):
            return name in parameters
        case ("refuse", word):
            return word in WORDS
        case ("if", test, one, other):
            return are_bodies((test, one, other), depth - 1, parameters, counts)
        case ("do", operation, parts):
            return can_do(operation, parts) and are_bodies(parts, depth - 1, parameters, counts)
        case ("call", name, parts):
            return can_call(name, parts, counts) and are_bodies(parts, depth - 1, parameters, counts)
        case _:
            return False


def are_bodies(expressions, depth, parameters, counts):
    return all(is_body(part, depth, parameters, counts) for part in expressions)


def can_do(operation, parts):
    """Tell whether parts are a tuple of as many as an operation takes, and it is one."""
    if not isinstance(operation, str) or not isinstance(parts, tuple):
        return False
    return is_operation(operation) and takes(operation, len(parts))


def can_call(name, parts, counts):
    """Tell whether parts are a tuple of as many as the function of that name takes."""
    if not isinstance(name, str) or not isinstance(parts, tuple):
        return False
    return name in counts and counts[name] == len(parts)


def is_function(function, counts):
    name, parameters, body = function
    if not is_name(name) or len(parameters) > MOST_PARAMETERS:
        return False
    if not all(is_name(text) for text in parameters) or not are_unlike(parameters):
        return False
    return is_body(body, MOST_DEPTH, parameters, counts)


def is_good(program):
    """Tell whether a tuple of functions is a program."""
    if not program or not are_unlike([function[0] for function in program]):
        return False
    counts = {name: len(parameters) for name, parameters, _ in program}
    return all(is_function(function, counts) for function in program)
