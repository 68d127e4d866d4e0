"""The twelve operations, what they tell of values and what they refuse."""

from halfrun.errors import ByNought, NoDown, NoFirst, NoList, NoNumber, TooGreat
from halfrun.values import is_value

# The fewest and the most values that each operation takes.
TAKEN = {
    "plus": (2, 2),
    "minus": (2, 2),
    "times": (2, 2),
    "over": (2, 2),
    "less": (2, 2),
    "down": (1, 1),
    "first": (1, 1),
    "rest": (1, 1),
    "empty": (1, 1),
    "same": (2, 2),
    "join": (2, 2),
    "list": (0, 8),
}


def is_operation(text):
    return text in TAKEN


def takes(operation, many):
    """Tell whether an operation takes so many values."""
    fewest, most = TAKEN[operation]
    return fewest <= many <= most


def need_number(value):
    if isinstance(value, tuple):
        raise NoNumber("a list stands where a number is needed")


def need_numbers(one, other):
    need_number(one)
    need_number(other)


def need_list(value):
    if not isinstance(value, tuple):
        raise NoList("a number stands where a list is needed")


def need_parts(value):
    need_list(value)
    if not value:
        raise NoFirst("a list without parts has no first part")


def plus(one, other):
    need_numbers(one, other)
    return one + other


def minus(one, other):
    need_numbers(one, other)
    return one - other


def times(one, other):
    need_numbers(one, other)
    return one * other


def over(one, other):
    # Both are looked at ahead of the nought: a list over 0 is NoNumber.
    need_numbers(one, other)
    if other == 0:
        raise ByNought("a number is divided by 0")
    return one // other


def less(one, other):
    need_numbers(one, other)
    return 1 if one < other else 0


def down(number):
    need_number(number)
    if number <= 0:
        raise NoDown("a number that is not above 0 has none below it")
    return number - 1


def first(parts):
    need_parts(parts)
    return parts[0]


def rest(parts):
    need_parts(parts)
    return parts[1:]


def empty(parts):
    need_list(parts)
    return 0 if parts else 1


def same(one, other):
    return 1 if one == other else 0


def joined(value, parts):
    need_list(parts)
    return (value, *parts)


def listed(*parts):
    return parts


ACTIONS = {
    "plus": plus,
    "minus": minus,
    "times": times,
    "over": over,
    "less": less,
    "down": down,
    "first": first,
    "rest": rest,
    "empty": empty,
    "same": same,
    "join": joined,
    "list": listed,
}


def done(operation, values):
    """Answer what an operation tells of a list of values, or refuse."""
    action = ACTIONS[operation]
    told = action(*values)
    if not is_value(told):
        raise TooGreat("what would be told is too great or weighs too much")
    return told
