"""Running programs."""

from halfrun.errors import NoNumber, TooLong, refuse
from halfrun.operations import done


class Course:
    """A run under way: the steps that wait, the next one last, and the values told but not yet used.

    Calls stand thousands deep within one another, deeper than Python's own may: so the steps that
    wait are kept in a list. Each has beside it what the parameters stand for there. Beside the
    expressions there are three more steps, behind the parts that they wait for:
    ("lead", ONE, OTHER), ("finish", OPERATION, MANY) and ("enter", NAME, MANY).
    """

    def __init__(self, program, most):
        self.functions = {name: (parameters, body) for name, parameters, body in program}
        self.calls_left = most
        self.waiting = []
        self.told = []

    def enter(self, name, inputs):
        parameters, body = self.functions[name]
        self.waiting.append((body, dict(zip(parameters, inputs))))

    def count_call(self):
        if self.calls_left == 0:
            raise TooLong("the run makes more calls than it may")
        self.calls_left -= 1

    def wait_for(self, parts, scope):
        # What is put last is taken first, and the parts go from the left.
        for part in parts[::-1]:
            self.waiting.append((part, scope))

    def last_told(self, many):
        """Take the values told last, so many of them, in the order in which they were told."""
        at = len(self.told) - many
        values = self.told[at:]
        del self.told[at:]
        return values

    def lead(self, one, other, scope):
        test = self.told.pop()
        if isinstance(test, tuple):
            raise NoNumber("the test of an if tells a list")
        self.waiting.append((other if test == 0 else one, scope))

    def take(self, step, scope):
        match step:
            case ("value", value):
                self.told.append(value)
            case ("name", name):
                self.told.append(scope[name])
            case ("do", operation, parts):
                self.waiting.append((("finish", operation, len(parts)), scope))
                self.wait_for(parts, scope)
            case ("finish", operation, many):
                self.told.append(done(operation, self.last_told(many)))
            case ("call", name, parts):
                self.waiting.append((("enter", name, len(parts)), scope))
                self.wait_for(parts, scope)
            case ("enter", name, many):
                self.count_call()
                self.enter(name, self.last_told(many))
            case ("if", test, one, other):
                self.waiting.append((("lead", one, other), scope))
                self.waiting.append((test, scope))
            case ("lead", one, other):
                self.lead(one, other, scope)
            case ("refuse", word):
                refuse(word)

    def tell(self):
        while self.waiting:
            step, scope = self.waiting.pop()
            self.take(step, scope)
        return self.told.pop()


def run(program, inputs, most):
    """Answer what a program tells for its inputs, with at most so many calls, or refuse."""
    course = Course(program, most)
    course.enter(program[0][0], inputs)
    return course.tell()
