"""Runs, done step by step."""

from everyend.errors import BadAnswer, BadAnswers, BadCall, BadNumber, HasEnded, TooLong
from everyend.names import is_integer_between
from everyend.points import is_call, known_entry
from everyend.steps import followed, resumed, words_asked

MOST_STEPS = 20000
MOST_AT_ONCE = 10000


class Run:
    """A run of a call. Its own methods alone change it."""

    def __init__(self, program, call):
        if not is_call(program, call):
            raise BadCall()
        self._program = program
        self._call = call
        self._points = [known_entry(program.sheet, call)]
        # For each step: the points that it took off, how many it put on, its price.
        self._done = []
        self.end = None
        self.price = 0
        self.steps = 0

    @property
    def frames(self):
        """The points of the frames, the lowest one first."""
        return tuple(self._points)

    def top(self):
        """The point of the top frame, None if the run has ended."""
        return self._points[-1] if self._points else None

    def height(self):
        """How many frames there are."""
        return len(self._points)

    def asks(self):
        """The words of the ask at which the run stands, None if it stands at none."""
        if self.end is not None:
            return None
        return words_asked(self._program.sheet, self._points[-1])

    def step(self, answer):
        """Do a step, and tell its price."""
        if self.end is not None:
            raise HasEnded()
        words = self.asks()
        if not is_answer(words, answer):
            raise BadAnswer()
        told = followed(self._program.sheet, self._points[-1])
        if told[0] == "on":
            return self._go_on(told[1], told[2][words.index(answer) if words else 0])
        if told[0] == "call":
            self._points.append(told[1])
            return self._note([], 1, 0)
        return self._take_off(told[1])

    def back(self, many):
        """Take back the last steps."""
        if not is_integer_between(1, self.steps, many):
            raise BadNumber()
        for _ in range(many):
            removed, added, price = self._done.pop()
            del self._points[len(self._points) - added:]
            self._points.extend(removed)
            self.price -= price
        self.steps -= many
        self.end = None

    def to(self, function, place, limit):
        """Do at most limit steps that ask nothing, until the top frame is at this place."""
        if not is_integer_between(0, MOST_AT_ONCE, limit):
            raise BadNumber()
        for _ in range(limit):
            if self.end is not None or self._is_at(function, place) or self.asks() is not None:
                break
            self.step(None)
        return self._is_at(function, place)

    def copy(self):
        """Another run that stands where this one stands."""
        other = Run(self._program, self._call)
        other._points = list(self._points)
        other._done = list(self._done)
        other.end = self.end
        other.price = self.price
        other.steps = self.steps
        return other

    def _is_at(self, function, place):
        """Whether the top frame is at a point of this function and place."""
        if self.end is not None or isinstance(place, bool):
            return False
        return self._points[-1][:2] == (function, place)

    def _go_on(self, price, point):
        """The top frame goes on to the point."""
        removed = [self._points.pop()]
        self._points.append(point)
        return self._note(removed, 1, price)

    def _take_off(self, end):
        """The top frame ends so; those below go on, or end in the same step."""
        removed = [self._points.pop()]
        told = end
        # An error that a frame does not catch is its end, too, the same one.
        while told == end and self._points:
            caller = self._points.pop()
            removed.append(caller)
            told = resumed(self._program.sheet, caller, end)
        if told == end:
            self.end = end
            return self._note(removed[::-1], 0, 0)
        self._points.append(told)
        return self._note(removed[::-1], 1, 0)

    def _note(self, removed, added, price):
        """Keep what is needed to take the step back; tell its price."""
        self._done.append((removed, added, price))
        self.steps += 1
        self.price += price
        return price


def is_answer(words, answer):
    """Whether a run lets this answer: one of the words, or None where it asks nothing."""
    return answer is None if words is None else answer in words


def ran(program, call, answers):
    """The end, the price and the number of steps of the run of a call by these answers."""
    run = Run(program, call)
    if not isinstance(answers, (list, tuple)):
        raise BadAnswers(-1)
    used = 0
    while run.end is None:
        if run.steps == MOST_STEPS:
            raise TooLong()
        answer = None
        words = run.asks()
        if words is not None:
            if used == len(answers) or not is_answer(words, answers[used]):
                raise BadAnswers(used)
            answer = answers[used]
            used += 1
        run.step(answer)
    if used < len(answers):
        raise BadAnswers(used)
    return (run.end, run.price, run.steps)
