"""Runs by given answers, written down step by step, to judge papers."""

from everyend.names import is_integer_between
from everyend.runs import MOST_STEPS, Run, is_answer
from everyend.steps import followed


class Trace:
    """A run of a call by a tuple of answers, until it ends, has done the most steps or lacks an answer.

    tops, heights, prices: lists with the top point (None at the end), the
    number of frames and the price behind 0, 1, 2, .. steps; steps: how many
    were done; used: how many answers were; end: the end of the run, or None.
    """

    def __init__(self, program, call, answers, most):
        run = Run(program, call)
        self.tops = [run.top()]
        self.heights = [1]
        self.prices = [0]
        self.used = 0
        while run.end is None and run.steps < most:
            words = run.asks()
            answer = None
            if words is not None:
                if self.used == len(answers) or not is_answer(words, answers[self.used]):
                    break
                answer = answers[self.used]
                self.used += 1
            run.step(answer)
            self.tops.append(run.top())
            self.heights.append(run.height())
            self.prices.append(run.price)
        self.steps = run.steps
        self.end = run.end
        self._sheet = program.sheet

    def comes_back(self, low, high):
        """Whether behind low and behind high steps the top frames stand at one point, and no frame of the first ends
        between."""
        return self.tops[low] == self.tops[high] and min(self.heights[low:high + 1]) == self.heights[low]

    def step_of_end(self, many):
        """The number of the step with which the frame ends that is on top behind so many steps of a run that ends."""
        step = many + 1
        while self.heights[step] >= self.heights[many]:
            step += 1
        return step

    def end_by(self, step):
        """The end of the frames that end with a step."""
        return followed(self._sheet, self.tops[step - 1])[1]


def is_paper(thing):
    """Whether this is a tuple of a tuple and two numbers of steps, the first one less."""
    if not isinstance(thing, tuple) or len(thing) != 3:
        return False
    answers, low, high = thing
    if not isinstance(answers, tuple) or not is_integer_between(1, MOST_STEPS, high):
        return False
    return is_integer_between(0, high - 1, low)
