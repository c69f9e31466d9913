"""Runs that are written down by the ways in which goals are met."""


class Script:
    """The answers of a run from its begin on, and the number of its steps.

    chosen: for each goal the way by which it is met.
    """

    def __init__(self, chosen):
        self.answers = []
        self.steps = 0
        self._chosen = chosen
        # The goals of the frames that wait, the lowest one first.
        self._later = []

    def meet(self, goal):
        """Go on until the goal is met."""
        waiting = [goal]
        while waiting:
            _, steps, answer, goals = self._chosen[waiting.pop()]
            self._go_on(steps, answer)
            waiting.extend(goals[::-1])

    def walk(self, edges):
        """Go on along edges (see lassos); the goals that they leave for later wait."""
        for _, _, steps, answer, before, after in edges:
            self._go_on(steps, answer)
            if before is not None:
                self.meet(before)
            if after is not None:
                self._later.append(after)

    def finish(self):
        """Meet the goals that wait."""
        while self._later:
            self.meet(self._later.pop())

    def walk_round(self, lasso):
        """Go on along the path of a lasso and once around its ring; tell how many steps are ahead of the ring."""
        path, ring = lasso
        self.walk(path)
        ahead = self.steps
        self.walk(ring)
        return ahead

    def _go_on(self, steps, answer):
        """Do a step, or none at a joint."""
        self.steps += steps
        if answer is not None:
            self.answers.append(answer)
