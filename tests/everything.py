"""A program in which each kind of statement stands, and programs of all kinds of statements, made by chance."""

import random

from everyend.programs import Program

WHOLE = Program(
    {"top": "hi", "low": "lo"},
    {
        "cell": (None, 1, ("left",), {"see": "look", "also": "look"}),
        "pair": ("cell", 2, ("right", "more"), {"turn": "swap"}),
        "void": (None, 1, (), {}),
    },
    {
        "look": (("me",), 1, (("get", "x", "me", "left"), ("return", "x"))),
        "swap": (("me", "w"), 2, (
            ("with", "x", "me", "left", "w"),
            ("with", "x", "x", "left", ("oh",)),
            ("return", "x"))),
        "all": ((), 1, (
            ("set", "a", ("b",)),
            ("share", "top", "low"),
            ("pay", 9),
            ("ask", "x", ("yes", "no", "oh")),
            ("if", ("same", "x", ("yes",)), (
                ("loop", ("not", ("kind", "y", "row")), (
                    ("push", "y", "y", "x"),
                    ("pop", "z", ("none",)),
                    ("if", ("not", ("not", ("not", ("kind", ("w",), "pair")))), (), (
                        ("last", (
                            ("try", (("raise", "u"),), "u", ()),
                            ("try", (), "u", (("pay", 0),)),
                            ("last", (), ())), (
                            ("return", "top"),)),)))),
                ("if", ("same", ("yes",), ("yes",)), (("pay", 1),), ())), (
                ("if", ("kind", "x", "void"), (), ()),)),
            ("call", "x", "swap", ("x", ("me",))),
            ("apply", "x", "k", ()),
            ("send", "x", "x", "look", ("a", "b", ("c",), "d")),
            ("new", "v", "void", ()),
            ("keep", "k", "all", ()),
            ("loop", ("kind", "x", "kept"), ()))),
    })

NAMES = ("a", "b", "top", "low", "me", "zzzzzzzz")
FIELDS = ("left", "right", "oh")
KINDS = ("set share pay ask if loop return raise try last call apply send new keep get with push pop").split()


class Anything:
    """A program of any statements. It is for what is done with programs, not with runs."""

    def __init__(self, seed):
        self.chance = random.Random(seed)
        self.shared = {name: self.pick(NAMES) for name in ("top", "low", "s")[:self.upto(3)]}
        classes = {"cell": (None, 1, FIELDS[:self.upto(3)], {name: "look" for name in ("see", "also")[:self.upto(2)]}),
                   "void": (self.pick((None, "cell")), self.pick((1, 2)), ("own",)[:self.upto(1)], {}),
                   "deep": (self.pick((None, "void")), 2, (), {"run": "look"})}
        self.classes = {name: classes[name] for name in ("cell", "void", "deep")[:self.upto(3)]}
        self.functions = ("look", "f", "g", "h")[:1 + self.upto(3)]
        blocks = {name: (NAMES[-2:] if name == "look" else NAMES[:self.upto(4)], self.pick((1, 2)),
                         self.block(1, True)) for name in self.functions}
        self.program = Program(self.shared, self.classes, blocks)

    def pick(self, things):
        return self.chance.choice(things)

    def upto(self, most):
        return self.chance.randrange(most + 1)

    def block(self, deep, let_return):
        most = (7, 4, 3, 3, 2, 2)[deep - 1]
        return tuple(self.statement(deep, let_return) for _ in range(self.upto(most)))

    def expression(self):
        return self.pick((*NAMES, ("a",), ("none",), ("zzzzzzzz",)))

    def expressions(self):
        return tuple(self.expression() for _ in range(self.upto(4)))

    def test(self):
        kinds = ("word", "row", "kept", *self.classes)
        test = self.pick((("same", self.expression(), self.expression()), ("kind", self.expression(), self.pick(kinds))))
        for _ in range(self.upto(3)):
            test = ("not", test)
        return test

    def statement(self, deep, let_return):
        left = [word for word, needed in (("share", self.shared), ("new", self.classes)) if not needed]
        left += [] if let_return else ["return"]
        left += ["if", "loop", "try", "last"] if deep == 6 else []
        word, x, e = self.pick([word for word in KINDS if word not in left]), self.pick(NAMES), self.expression()
        inner = deep + 1
        parts = {
            "set": lambda: (x, e), "share": lambda: (self.pick(sorted(self.shared)), e), "pay": lambda: (self.upto(9),),
            "ask": lambda: (x, NAMES[:self.pick((2, 3))]), "return": lambda: (e,), "raise": lambda: (e,),
            "if": lambda: (self.test(), self.block(inner, let_return), self.block(inner, let_return)),
            "loop": lambda: (self.test(), self.block(inner, let_return)),
            "try": lambda: (self.block(inner, let_return), x, self.block(inner, let_return)),
            "last": lambda: (self.block(inner, False), self.block(inner, let_return)),
            "call": lambda: (x, self.pick(self.functions), self.expressions()),
            "apply": lambda: (x, e, self.expressions()),
            "send": lambda: (x, e, self.pick(FIELDS), self.expressions()),
            "new": lambda: (x, self.pick(sorted(self.classes)), self.expressions()),
            "keep": lambda: (x, self.pick(self.functions), self.expressions()),
            "get": lambda: (x, e, self.pick(FIELDS)), "with": lambda: (x, e, self.pick(FIELDS), self.expression()),
            "push": lambda: (x, e, self.expression()), "pop": lambda: (x, e),
        }
        return (word, *parts[word]())
