"""Programs as texts."""

from halfrun.errors import NoText
from halfrun.operations import is_operation
from halfrun.programs import FIGURES, is_good

# A number of more figures is none; and Python itself refuses to read one of some thousands.
MOST_FIGURES = 18
CLOSING = {"(": ")", "[": "]"}


def shown_value(value):
    """Write a value, however deep the lists in it are."""
    waiting = [value]
    words = []
    while waiting:
        part = waiting.pop()
        if isinstance(part, tuple):
            words.append("[")
            waiting.append("]")
            waiting.extend(part[::-1])
        else:
            words.append(str(part))
    return " ".join(words).replace("[ ", "[").replace(" ]", "]")


def in_brackets(word, parts):
    inner = " ".join([word] + [shown_expression(part) for part in parts])
    return f"({inner})"


def shown_expression(expression):
    match expression:
        case ("value", value):
            return shown_value(value)
        case ("name", name):
            return name
        case ("refuse", word):
            return f"(refuse {word})"
        case ("if", test, one, other):
            return in_brackets("if", (test, one, other))
        case (_, word, parts):
            return in_brackets(word, parts)


def shown_function(function):
    name, parameters, body = function
    head = " ".join([name, *parameters])
    return f"{head} = {shown_expression(body)}\n"


def shown(program):
    """Write a program, each function in a row."""
    return "".join([shown_function(function) for function in program])


def split_row(row):
    """Answer the words and brackets of a row."""
    for sign in ("(", ")", "[", "]"):
        row = row.replace(sign, f" {sign} ")
    return row.split()


def is_number_word(word):
    figures = word.removeprefix("-")
    return 1 <= len(figures) <= MOST_FIGURES and all(sign in FIGURES for sign in figures)


def read_word(word):
    if is_number_word(word):
        return ("value", int(word))
    return ("name", word)


def read_list(parts):
    """Answer the expression that is written as these parts in square brackets."""
    if any(part[0] != "value" for part in parts):
        raise NoText("a part of a list is no value")
    return ("value", tuple([part[1] for part in parts]))


def read_refuse(parts):
    if len(parts) != 1 or parts[0][0] != "name":
        raise NoText("a refuse is not of one word")
    return ("refuse", parts[0][1])


def read_form(parts):
    """Answer the expression that is written as these parts in round brackets."""
    if not parts or parts[0][0] != "name":
        raise NoText("a bracket does not begin with a word")
    word = parts[0][1]
    inner = tuple(parts[1:])
    if word == "refuse":
        return read_refuse(inner)
    if word == "if":
        return ("if", *inner)
    if is_operation(word):
        return ("do", word, inner)
    return ("call", word, inner)


def read_body(words):
    """Answer the one expression that words and brackets make.

    The brackets that are not closed yet are kept in a list: thousands of them may stand in a row.
    """
    sign = ""
    parts = []
    around = []
    for word in words:
        if word in CLOSING:
            around.append((sign, parts))
            sign = word
            parts = []
        elif word in (")", "]"):
            if CLOSING.get(sign, "") != word:
                raise NoText("a bracket is closed that is not open")
            made = read_form(parts) if sign == "(" else read_list(parts)
            sign, parts = around.pop()
            parts.append(made)
        else:
            parts.append(read_word(word))
    if around or len(parts) != 1:
        raise NoText("a body is not one expression")
    return parts[0]


def read_function(row):
    words = split_row(row)
    at = words.index("=") if "=" in words else 0
    if at == 0:
        raise NoText("a row has no name ahead of an equals sign")
    return (words[0], tuple(words[1:at]), read_body(words[at + 1:]))


def read(text):
    """Answer the program that a text is written of, or refuse."""
    program = tuple([read_function(row) for row in text.split("\n")[:-1]])
    # Reading lets blanks, line ends and noughts pass; only what is written alike is the program's text.
    if not is_good(program) or shown(program) != text:
        raise NoText("a text is not that of a program")
    return program
