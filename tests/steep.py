"""Programs whose runs come to their ends by more or fewer frames, made by chance, the same ones each time."""

import random

from everyend.programs import Program

LEVELS = ("a", "b", "c", "d", "e", "g")
ONE_STEP = ("pay", 0)


class Steep:
    """One program of the functions f and g, which mostly call with words that come later in the order of the letters,
    or do some steps instead; and a call of f."""

    def __init__(self, seed):
        self.chance = random.Random(seed)
        functions = {name: (("a",), 1, (("ask", "x", ("l", "r")), *[self.case(word) for word in LEVELS]))
                     for name in "fg"}
        self.program = Program({"s": "a"}, {}, functions)
        self.call = ("f", ("a",), ("a",))

    def case(self, word):
        asked = ("if", ("same", "x", ("l",)), self.acts(word), self.acts(word))
        return ("if", ("same", "a", (word,)), (asked,), ())

    def acts(self, word):
        leave = self.chance.choice((("return", ("v",)), ("return", "x"), ("raise", ("e",)), ONE_STEP))
        if self.chance.random() < 0.3:
            return (ONE_STEP,) * self.chance.randrange(8) + (leave,)
        return (*[self.act(word) for _ in range(self.chance.randrange(1, 4))], leave)

    def act(self, word):
        words = [later for later in LEVELS if later >= word] if self.chance.random() < 0.9 else LEVELS
        call = ("call", "x", self.chance.choice("fg"), ((self.chance.choice(words),),))
        steps = (ONE_STEP,) * self.chance.randrange(9)
        return self.chance.choice((call, call, call, ("try", (call,), "x", steps[:3]),
                                   ("if", ("same", "x", ("v",)), (call,), steps[:6]),
                                   ("if", ("same", ("a",), ("a",)), steps, ())))
