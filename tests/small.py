"""Small programs, made by chance, the same ones each time; and calls of their function f."""

import random

from everyend.programs import Program

NAMES = ("a", "b")
WORDS = ("a", "w")
PAYS = (0, 1, 1, 2, 5)
STATEMENTS = ("set", "share", "pay", "pay", "ask", "ask", "ask", "call", "call")
WITH_BLOCKS = ("if", "if", "loop", "loop", "try", "try", "last")


class Small:
    """One program of the functions f, g and h, each of one parameter, and one shared name."""

    def __init__(self, seed):
        self.chance = random.Random(seed)
        functions = {name: (("a",), 1, self.begin() + self.block(1, self.chance.randrange(2, 5), True)) for name in "fgh"}
        self.program = Program({"s": "w"}, {}, functions)
        self.call = ("f", (self.pick(WORDS),), ("w",))

    def pick(self, things):
        return self.chance.choice(things)

    def likely(self, many):
        return self.chance.random() < many

    def begin(self):
        """Mostly b has a value, so that not all runs end by errors at once."""
        first = (("ask", "b", WORDS),) if self.likely(0.5) else ()
        return first + ((("set", "b", ("a",)),) if self.likely(0.5) else ())

    def expression(self):
        return self.pick((*NAMES, "s")) if self.likely(0.6) else (self.pick(WORDS),)

    def test(self):
        test = ("same", self.expression(), self.expression())
        return test if self.likely(0.7) else ("not", test)

    def block(self, deep, many, let_return):
        return tuple(self.statement(deep, let_return) for _ in range(many))

    def inner(self, deep, let_return, least=0):
        return self.block(deep + 1, self.chance.randrange(least, 3), let_return)

    def statement(self, deep, let_return):
        words = STATEMENTS + (WITH_BLOCKS if deep < 3 else ())
        if self.likely(0.4):
            words += ("raise", "return") if let_return else ("raise",)
        word, name = self.pick(words), self.pick(NAMES)
        parts = {
            "set": lambda: (name, self.expression()), "share": lambda: ("s", self.expression()),
            "pay": lambda: (self.pick(PAYS),), "ask": lambda: (name, WORDS),
            "return": lambda: (self.expression(),), "raise": lambda: (self.expression(),),
            "if": lambda: (self.test(), self.inner(deep, let_return), self.inner(deep, let_return)),
            "try": lambda: (self.inner(deep, let_return, 1), name, self.inner(deep, let_return)),
            "last": lambda: (self.inner(deep, False, 1), self.inner(deep, let_return)),
        }
        if word == "call":
            call = ("call", name, self.pick("fgh"), (self.expression(),))
            return ("if", ("same", name, ("a",)), (call,), ()) if self.likely(0.5) and deep < 3 else call
        if word == "loop":
            if self.likely(0.2):
                return ("loop", self.test(), self.inner(deep, let_return))
            # Most loops can be left.
            block = (*self.inner(deep, let_return), ("ask", name, WORDS))
            return ("loop", ("not", ("same", name, ("w",))), block)
        return (word, *parts[word]())


def pad(many):
    """One statement (none for 0) in which just so many stand, at most 700, all done one behind the other."""
    if many < 2:
        return (("pay", 0),) * many
    rest = many - 1
    inner = [pad(rest // 9 + (at < rest % 9)) for at in range(9)]
    return (("if", ("same", ("a",), ("a",)), tuple(one for row in inner for one in row), ()),)
