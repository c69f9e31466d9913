"""Blocks, statements, tests and expressions (2.2)."""

import unittest

from everyend.errors import BadProgram
from everyend.programs import Program
from tests.samples import odd_objects

SAME = ("same", "a", ("b",))

# A right statement of each kind, with what may not stand in place of each of its parts.
NO_NAME = ["A", "", "abcdefghi", None, 1, ("a",), ["a"], b"a"]
NO_EXPRESSION = ["A", "", None, 1, (), ("A",), ("a", "b"), ["a"], (("a",),), (1,), b"a"]
NO_EXPRESSIONS = [None, "a", "ab", ["a"], ("a",) * 5, ("A",), (1,), (("a", "b"),), ((),), {}]
NO_TEST = [None, "a", (), ("same",), ("same", "a"), ("same", "a", "a", "a"), ["same", "a", "a"], ("same", "A", "a"),
           ("same", "a", 1), ("kind", "a"), ("kind", "A", "word"), ("kind", "a", ("word",)), ("kind", "a", "nope"),
           ("kind", "a", "f"), ("kind", "a", None), ("kind", "a", []), ("kind", "a", "thing"), ("not",),
           ("not", "a"), ("not", SAME, SAME), ["not", SAME], ("not", ["same", "a", "a"]),
           ("not", ("not", ("not", ("not", SAME)))), ("nots", SAME),
           ("kinds", "a", "word"), (None, "a", "a"), ([], "a", "a")]
NO_BLOCK = [None, "a", [], ["a"], ("a",), (("pay", 1),) * 13, (("no",),), {}, ((),), (None,), (["pay", 1],)]
NO_WORDS = [None, "ab", ("a",), ("a", "b", "c", "d"), ("a", "a"), ("a", "b", "a"), ["a", "b"], ("a", "B"), ("a", 1),
            ("a", ("b",)), ()]
NO_FUNCTION = ["no", "c", "F", None, 1, ("f",), []]
NO_CLASS = ["no", "f", "C", None, 1, ("c",), [], "word"]
NO_PRICE = [-1, 10, True, False, None, "1", (1,), 10 ** 20]
NO_SHARED = ["x", "f", "S", None, ("s",), [], {}]

STATEMENTS = [
    (("set", "x", "y"), NO_NAME, NO_EXPRESSION),
    (("set", "x", ("y",)), NO_NAME, NO_EXPRESSION),
    (("share", "s", "y"), NO_SHARED, NO_EXPRESSION),
    (("pay", 5), NO_PRICE),
    (("ask", "x", ("b", "a", "c")), NO_NAME, NO_WORDS),
    (("if", SAME, (("pay", 1),), ()), NO_TEST, NO_BLOCK, NO_BLOCK),
    (("loop", ("kind", "x", "c"), (("pay", 1),)), NO_TEST, NO_BLOCK),
    (("return", "x"), NO_EXPRESSION),
    (("raise", ("x",)), NO_EXPRESSION),
    (("try", (("pay", 1),), "x", ()), NO_BLOCK, NO_NAME, NO_BLOCK),
    (("last", (("pay", 1),), (("return", "x"),)), [*NO_BLOCK, (("return", "x"),)], NO_BLOCK),
    (("call", "x", "f", ("a", ("b",))), NO_NAME, NO_FUNCTION, NO_EXPRESSIONS),
    (("apply", "x", "y", ()), NO_NAME, NO_EXPRESSION, NO_EXPRESSIONS),
    (("send", "x", ("y",), "any", ("a",) * 4), NO_NAME, NO_EXPRESSION, NO_NAME, NO_EXPRESSIONS),
    (("new", "x", "c", ()), NO_NAME, NO_CLASS, NO_EXPRESSIONS),
    (("keep", "x", "g", ()), NO_NAME, NO_FUNCTION, NO_EXPRESSIONS),
    (("get", "x", "y", "any"), NO_NAME, NO_EXPRESSION, NO_NAME),
    (("with", "x", "y", "any", ("z",)), NO_NAME, NO_EXPRESSION, NO_NAME, NO_EXPRESSION),
    (("push", "x", "y", "z"), NO_NAME, NO_EXPRESSION, NO_EXPRESSION),
    (("pop", "x", "y"), NO_NAME, NO_EXPRESSION),
]


def made(*block):
    """A program with this block, a shared name s, a class c and a function g."""
    return Program({"s": "s"}, {"c": (None, 1, (), {})}, {"f": (("p",), 1, block), "g": ((), 1, ())})


def around(many, statement):
    """The statement in so many loops."""
    for _ in range(many):
        statement = ("loop", SAME, (statement,))
    return statement


class Blocks(unittest.TestCase):
    def wrong(self, *block):
        with self.assertRaises(BadProgram) as caught:
            made(*block)
        self.assertEqual(caught.exception.part, "block f", block)

    def test_each_statement(self):
        for statement, *_ in STATEMENTS:
            self.assertEqual(made(statement).functions["f"][2], (statement,))

    def test_each_wrong_part(self):
        for statement, *wrongs in STATEMENTS:
            self.assertEqual(len(wrongs), len(statement) - 1)
            for at, things in enumerate(wrongs, 1):
                for thing in things:
                    self.wrong((*statement[:at], thing, *statement[at + 1:]))

    def test_odd_parts(self):
        # Of the odd objects only these can stand where a block, expressions or a price stand.
        let = [(), 0, 1]
        for statement, *_ in STATEMENTS:
            for at in range(len(statement)):
                for thing in odd_objects():
                    if not any(type(thing) is type(one) and thing == one for one in let):
                        self.wrong((*statement[:at], thing, *statement[at + 1:]))

    def test_number_of_parts(self):
        for statement, *_ in STATEMENTS:
            self.wrong(statement[:-1])
            self.wrong((*statement, "x"))
            self.wrong((*statement, ()))
            self.wrong(list(statement))
            self.wrong(statement[0])
            self.wrong(("no", *statement[1:]))

    def test_odd_blocks(self):
        for thing in odd_objects():
            if thing == ():
                continue
            with self.assertRaises(BadProgram) as caught:
                Program({}, {}, {"f": ((), 1, thing)})
            self.assertEqual(caught.exception.part, "block f")
            self.wrong(thing)

    def test_length(self):
        made(*[("pay", 0)] * 12)
        self.wrong(*[("pay", 0)] * 13)
        for statement in (("loop", SAME, (("pay", 0),) * 12), ("if", SAME, (), (("pay", 0),) * 12),
                          ("try", (("pay", 0),) * 12, "x", ()), ("last", (), (("pay", 0),) * 12)):
            made(statement)

    def test_numbers_at_their_bounds(self):
        made(("pay", 0), ("pay", 9), ("ask", "x", ("a", "b")), ("ask", "x", ("a", "b", "c")),
             ("call", "x", "f", ("a",) * 4), ("set", "abcdefgh", ("abcdefgh",)))
        self.wrong(("pay", 10))
        self.wrong(("pay", -1))
        self.wrong(("set", "abcdefghi", "a"))

    def test_tests(self):
        for test in (SAME, ("same", ("a",), ("a",)), ("kind", "a", "word"), ("kind", ("a",), "row"),
                     ("kind", "a", "kept"), ("kind", "a", "c"), ("not", SAME), ("not", ("not", ("kind", "a", "c"))),
                     ("not", ("not", ("not", SAME)))):
            made(("loop", test, ()), ("if", test, (), ()))

    def test_depth(self):
        for statement, *_ in STATEMENTS:
            most = 4 if statement[0] in ("if", "loop", "try", "last") else 5
            for many in range(most + 1):
                made(around(many, statement))
            self.wrong(around(most + 1, statement))
            self.wrong(around(40, statement))
        # An empty block is a block, too.
        for statement in (("loop", SAME, ()), ("if", SAME, (), ()), ("try", (), "x", ()), ("last", (), ())):
            made(around(4, statement))
            self.wrong(around(5, statement))

    def test_depth_by_each_kind(self):
        def deep(many, wrap):
            statement = ("pay", 1)
            for _ in range(many):
                statement = wrap(statement)
            return statement
        wraps = [lambda one: ("if", SAME, (one,), ()), lambda one: ("if", SAME, (), (one,)),
                 lambda one: ("loop", SAME, (one,)), lambda one: ("try", (one,), "x", ()),
                 lambda one: ("try", (), "x", (one,)), lambda one: ("last", (one,), ()),
                 lambda one: ("last", (), (one,))]
        for wrap in wraps:
            made(deep(5, wrap))
            self.wrong(deep(6, wrap))

    def test_return_in_a_last(self):
        back = ("return", "x")
        inner = [("if", SAME, (back,), ()), ("if", SAME, (), (back,)), ("loop", SAME, (back,)),
                 ("try", (back,), "x", ()), ("try", (), "x", (back,)), ("last", (), (back,)),
                 ("loop", SAME, (("if", SAME, (), (("pay", 1), back)),))]
        for statement in [back, *inner]:
            made(("last", (), (statement,)))
            made(("try", (statement,), "x", ()))
            self.wrong(("last", (statement,), ()))
            self.wrong(("last", (("pay", 1), statement), ()))
            self.wrong(("loop", SAME, (("last", (statement,), ()),)))

    def test_names_of_the_program(self):
        for block in ([("call", "x", "f", ())], [("call", "x", "g", ())], [("keep", "x", "f", ())]):
            made(*block)
        self.wrong(("call", "x", "s", ()))
        self.wrong(("share", "g", "x"))
        made(("set", "s", "s"), ("ask", "s", ("s", "f")), ("set", "f", "c"), ("set", "set", "if"))


if __name__ == "__main__":
    unittest.main()
