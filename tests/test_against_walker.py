"""Runs of many small programs, against a second way to do them (tests/walker.py)."""

import random
import sys
import unittest

from everyend.errors import BadProgram
from everyend.following import back, following
from everyend.plain import plain
from everyend.points import is_end, is_point
from everyend.programs import Program
from everyend.runs import Run, ran
from everyend.shapes import blocks_of
from tests.walker import Stopped, Walker

# What the names mostly hold: a, s and za words, r a row, t a thing, k a kept function.
NAMES = ("a", "s", "za", "r", "t", "k")
WORDS = ("a", "none", "oh", "w")
FIELDS = ("p", "q", "r")
METHODS = ("m", "n")
CLASSES = {"low": (None, 1, ("p",), {"m": "g"}), "sub": ("low", 1, ("q",), {"n": "h"}),
           "high": (None, 2, ("r", "p"), {"n": "g"})}
PARAMETERS = {"f": (("a", "k", "r", "t"), 2), "g": (("t",), 1), "h": (("t", "a"), 2)}
LOW, SUB = ("thing", "low", ("w",)), ("thing", "sub", ("w", "oh"))
VALUES = {
    "a": ("a", "none", "oh"), "r": (("row", ()), ("row", ("w",)), ("row", ("a", "w", "oh"))),
    "t": (LOW, SUB, ("thing", "high", (SUB, "a")), ("thing", "high", (("row", ("a",)), LOW))),
    "k": (("kept", "g", ()), ("kept", "g", ("w",)), ("kept", "h", (LOW,))),
}
MOST = 400


def deep_of(statement):
    """How many blocks stand in each other, with the one in which the statement stands."""
    return 1 + max([max([1, *map(deep_of, inner)]) for inner in blocks_of(statement)], default=0)


class Maker:
    """Makes programs by chance, the same ones each time."""

    def __init__(self, seed):
        self.chance = random.Random(seed)

    def pick(self, things):
        return self.chance.choice(things)

    def expression(self):
        return self.pick(NAMES) if self.chance.random() < 0.6 else (self.pick(WORDS),)

    def mostly(self, name):
        """The name, or now and then another expression."""
        return name if self.chance.random() < 0.9 else self.expression()

    def word(self):
        return self.pick(("a", "a", "s", *[(word,) for word in WORDS]))

    def expressions(self, *usual):
        if self.chance.random() < 0.1:
            usual = usual[1:] if usual and self.chance.random() < 0.5 else (*usual, "a")
        return tuple(self.mostly(one) for one in usual[:4])

    def into(self, name):
        return name if self.chance.random() < 0.9 else self.pick(NAMES)

    def test(self):
        roll = self.chance.random()
        if roll < 0.3:
            inner = self.test()
            return ("not", inner) if inner[0] != "not" else inner
        if roll < 0.65:
            return ("same", self.expression(), self.expression())
        return ("kind", self.expression(), self.pick(("word", "row", "kept", *CLASSES)))

    def block(self, deep, let_return=True):
        many = self.chance.randrange(2, 7) if deep < 3 else self.chance.randrange(3)
        return tuple(self.statement(deep, let_return) for _ in range(many))

    def statement(self, deep, let_return):
        words = ["set", "share", "pay", "ask", "raise", "call", "apply", "send", "new", "keep", "get", "with", "push",
                 "pop", "new", "keep", "push", "set"]
        words += ["return"] * (let_return and deep > 1)
        words += ["if", "loop", "try", "last", "if", "try", "last"] * (2 if deep < 5 else 0)
        word = self.pick(words)
        function, name = self.pick(sorted(PARAMETERS)), self.pick(sorted(CLASSES))
        usual = {"low": ("a",), "sub": ("a", ("w",)), "high": ("r", "a")}[name]
        inner, test = [], self.test()
        if word in ("if", "loop", "try", "last"):
            inner = [self.block(deep + 1, let_return and word != "last"), self.block(deep + 1, let_return)]
        parts = {
            "set": lambda: (self.into("a"), self.mostly(self.word())), "share": lambda: ("s", self.mostly(self.word())),
            "pay": lambda: (self.chance.randrange(10),),
            "ask": lambda: (self.into("a"), self.pick((("a", "oh"), ("w", "a", "none")))),
            "raise": lambda: (self.mostly(self.word()),), "return": lambda: (self.expression(),),
            "if": lambda: (test, *inner), "loop": lambda: (test, inner[0]),
            "try": lambda: (inner[0], self.into("a"), inner[1]), "last": lambda: tuple(inner),
            "call": lambda: (self.into("a"), function, self.expressions(*PARAMETERS[function][0])),
            "apply": lambda: (self.into("a"), self.mostly("k"), self.expressions(self.pick("at"))),
            "send": lambda: (self.into("a"), self.mostly("t"), self.pick(METHODS), self.expressions()),
            "new": lambda: (self.into("t"), name, self.expressions(*usual)),
            "keep": lambda: (self.into("k"), self.pick("gh"), self.expressions(self.pick("at"))),
            "get": lambda: (self.into("a"), self.mostly("t"), self.pick(FIELDS)),
            "with": lambda: (self.into("t"), self.mostly("t"), self.pick(FIELDS), self.mostly(self.word())),
            "push": lambda: (self.into("r"), self.mostly("r"), self.mostly(self.word())),
            "pop": lambda: (self.into("r"), self.mostly("r")),
        }
        return (word, *parts[word]())

    def arguments(self):
        return tuple(self.pick(VALUES[name]) for name in PARAMETERS["f"][0])

    def program(self):
        functions = {name: (*told, self.block(1)) for name, told in PARAMETERS.items()}
        # Most errors are caught, so that runs get further.
        tried = tuple(("try", (statement,), "za", ()) if self.chance.random() < 0.7 and deep_of(statement) < 6
                      else statement for statement in functions["f"][2])
        functions["f"] = (*PARAMETERS["f"], tried)
        return Program({"s": "w"}, CLASSES, functions)


class Against(unittest.TestCase):
    def setUp(self):
        self.limit = sys.getrecursionlimit()
        sys.setrecursionlimit(20000)

    def tearDown(self):
        sys.setrecursionlimit(self.limit)

    def programs(self, many):
        for seed in range(many):
            maker = Maker(seed)
            try:
                yield seed, maker, maker.program()
            except BadProgram as error:
                self.assertEqual(error.part, "last")

    def test_ends_prices_and_steps(self):
        seen = {}
        for seed, maker, program in self.programs(600):
            walker, arguments = Walker(program, ("w",), maker.pick, MOST), maker.arguments()
            try:
                end = walker.run("f", arguments)
            except Stopped:
                continue
            told = (end, walker.price, walker.steps)
            for one in (program, plain(program)):
                self.assertEqual(ran(one, ("f", arguments, ("w",)), walker.answers), told, seed)
            self.assertTrue(is_end(program, end))
            seen[end[:2]] = True
        # All errors, and values of each kind, have come.
        for word in ("unset", "deep", "count", "kind", "method", "field", "full", "empty", "oh"):
            self.assertIn(("error", word), seen)
        kinds = {worth[0] for told, worth in seen if told == "value" and isinstance(worth, tuple)}
        self.assertEqual(kinds, {"row", "thing", "kept"})

    def test_runs_by_what_follows(self):
        """Each step of a run is the one that following and back tell; and back again it is as it was."""
        for _, maker, program in self.programs(200):
            run, states = Run(program, ("f", maker.arguments(), ("w",))), []
            while run.end is None and run.steps < 60:
                states.append((run.frames, run.price))
                answer = maker.pick(run.asks()) if run.asks() else None
                frames, words = run.frames, run.asks()
                price = run.step(answer)
                self.assertEqual((run.frames or run.end, price), self.next_frames(program, frames, words, answer))
            for frames, price in reversed(states):
                run.back(1)
                self.assertEqual((run.frames, run.price, run.end), (frames, price, None))

    def next_frames(self, program, frames, words, answer):
        *below, top = frames
        self.assertTrue(is_point(program, top))
        told = following(program, top)
        if told[0] == "call":
            return (*frames, told[1]), 0
        if told[0] == "on":
            return (*below, told[2][words.index(answer) if words else 0]), told[1]
        end = told[1]
        while below:
            end = back(program, below.pop(), end)
            if len(end) == 4:
                return (*below, end), 0
        return end, 0


if __name__ == "__main__":
    unittest.main()
