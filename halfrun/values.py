"""Values, which are whole numbers and lists of values, and their weight."""

BOUND = 10 ** 18
MOST_WEIGHT = 50


def is_number(thing):
    """Tell whether a thing is a whole number within the bounds."""
    # Python counts truth values among the whole numbers; here they are none.
    if isinstance(thing, bool) or not isinstance(thing, int):
        return False
    return -BOUND < thing < BOUND


def is_value(thing):
    """Tell whether a thing is a number, or a tuple of values, that is not too heavy."""
    waiting = [thing]
    weighed = 0
    # The weighing stops just above the limit, however large or deep the thing is.
    while waiting and weighed <= MOST_WEIGHT:
        part = waiting.pop()
        weighed += 1
        if isinstance(part, tuple):
            waiting.extend(part)
        elif not is_number(part):
            return False
    return weighed <= MOST_WEIGHT


def weight(value):
    """Tell how many numbers and lists a value is made of, itself too."""
    waiting = [value]
    weighed = 0
    while waiting:
        part = waiting.pop()
        weighed += 1
        if isinstance(part, tuple):
            waiting.extend(part)
    return weighed
