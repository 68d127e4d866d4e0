"""The refusals of Halfrun."""

# The refusals that a program may name in a refuse; the other three have no word there.
WORDS = ("NoNumber", "NoList", "NoFirst", "NoDown", "ByNought", "TooGreat")


class HalfError(ValueError):
    """Any refusal."""


class NoNumber(HalfError):
    """A list stands where a number is needed."""


class NoList(HalfError):
    """A number stands where a list is needed."""


class NoFirst(HalfError):
    """A list without parts has no first part and no rest."""


class NoDown(HalfError):
    """A number that is not above 0 has none below it."""


class ByNought(HalfError):
    """A number is divided by 0."""


class TooGreat(HalfError):
    """What would be told is too great or weighs too much to be a value."""


class TooLong(HalfError):
    """A run makes more calls than it may."""


class NotKept(HalfError):
    """A program does not keep the sorting that is handed in with it."""


class NoText(HalfError):
    """A text is not the text of a program."""


def refuse(word):
    """Raise the refusal that has that word."""
    match word:
        case "NoNumber":
            raise NoNumber("a refuse is come to")
        case "NoList":
            raise NoList("a refuse is come to")
        case "NoFirst":
            raise NoFirst("a refuse is come to")
        case "NoDown":
            raise NoDown("a refuse is come to")
        case "ByNought":
            raise ByNought("a refuse is come to")
        case "TooGreat":
            raise TooGreat("a refuse is come to")
