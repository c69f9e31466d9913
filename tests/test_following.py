"""What follows by each statement, with each error, and by ends of called frames (3.3, 3.4, 4.1)."""

import unittest

from everyend.errors import BadEnd, BadPoint
from everyend.following import back, following
from everyend.programs import Program
from tests.samples import RICH, odd_objects, one

ROW = ("row", ("a", "b"))
FULL = ("row", ("a", "b", "c"))
EMPTY = ("row", ())
CELL = ("thing", "cell", ("a",))
PAIR = ("thing", "pair", ("a", "b"))
VOID = ("thing", "void", ())
BOX = ("thing", "box", (CELL,))
KEPT = ("kept", "f", ("a",))
HIGH = ("kept", "g", ())
SHARED = ("lo", "hi")

# The values that the locals of these points have; no local is called low, top or none.
LOCALS = {"w": "a", "v": "b", "no": "none", "r": ROW, "full": FULL, "empty": EMPTY, "cell": CELL, "pair": PAIR,
          "void": VOID, "box": BOX, "kept": KEPT, "high": HIGH}


def locals_with(**more):
    return tuple(sorted({**LOCALS, **more}.items()))


def program_with(*statements):
    """RICH, with a further function t of these statements."""
    functions = RICH.functions
    functions["t"] = ((), 1, statements)
    return Program(RICH.shared, RICH.classes, functions)


def at(place, shared=SHARED, **more):
    return ("t", place, locals_with(**more), shared)


class Following(unittest.TestCase):
    def gives(self, statement, told):
        """What follows at the begin of a function of this statement alone."""
        self.assertEqual(following(program_with(statement), at(0)), told)

    def goes(self, statement, price=0, **more):
        self.gives(statement, ("on", price, (at(1, **more),)))

    def raises(self, statement, word):
        """The error ends the frame; in a try it is caught."""
        self.gives(statement, ("end", ("error", word, SHARED)))
        program = program_with(("try", (statement,), "x", (("pay", 1),)))
        self.assertEqual(following(program, at(1)), ("on", 0, (at(2, x=word),)))

    def calls(self, statement, function, *pairs):
        self.gives(statement, ("call", (function, 0, tuple(sorted(pairs)), SHARED)))

    def test_set(self):
        self.goes(("set", "x", "box"), x=BOX)
        self.goes(("set", "x", ("box",)), x="box")
        self.goes(("set", "w", "v"), w="b")
        self.goes(("set", "x", "low"), x="lo")
        self.goes(("set", "low", "top"), low="hi")
        self.raises(("set", "x", "new"), "unset")
        self.raises(("set", "x", "x"), "unset")

    def test_locals_hide_shared_names(self):
        program = program_with(("set", "x", "top"), ("share", "top", ("new",)), ("set", "x", "top"))
        self.assertEqual(following(program, at(0, top="mine")), ("on", 0, (at(1, top="mine", x="mine"),)))
        self.assertEqual(following(program, at(1, top="mine")), ("on", 0, (at(2, ("lo", "new"), top="mine"),)))
        self.assertEqual(following(program, at(2, ("lo", "new"), top="mine")),
                         ("on", 0, (at(3, ("lo", "new"), top="mine", x="mine"),)))
        program = one(("return", "s"), parameters=("s",), shared={"s": "w"})
        self.assertEqual(following(program, ("f", 0, (("s", "p"),), ("w",))), ("end", ("value", "p", ("w",))))
        self.assertEqual(following(program, ("f", 0, (), ("w",))), ("end", ("value", "w", ("w",))))

    def test_share(self):
        for name, value in (("w", "a"), ("r", ROW), ("pair", PAIR), ("kept", KEPT), ("low", "lo")):
            self.gives(("share", "top", name), ("on", 0, (at(1, ("lo", value)),)))
            self.gives(("share", "low", name), ("on", 0, (at(1, (value, "hi")),)))
        self.raises(("share", "low", "box"), "deep")
        self.raises(("share", "low", "high"), "deep")
        self.raises(("share", "low", "new"), "unset")

    def test_pay(self):
        for price in range(10):
            self.goes(("pay", price), price)

    def test_ask(self):
        self.gives(("ask", "x", ("z", "a")), ("on", 0, (at(1, x="z"), at(1, x="a"))))
        self.gives(("ask", "w", ("b", "c", "a")), ("on", 0, (at(1, w="b"), at(1, w="c"), at(1, w="a"))))

    def holds(self, test, answer):
        for test, answer in ((test, answer), (("not", test), not answer), (("not", ("not", test)), answer),
                             (("not", ("not", ("not", test))), not answer)):
            self.gives(("if", test, (("pay", 1),), (("pay", 2),)), ("on", 0, (at(1 if answer else 2),)))
            self.gives(("loop", test, (("pay", 1),)), ("on", 0, (at(1 if answer else 2),)))
            self.gives(("if", test, (), ()), ("on", 0, (at(1),)))
            self.gives(("loop", test, ()), ("on", 0, (at(0 if answer else 1),)))

    def test_same(self):
        for name in LOCALS:
            for other in LOCALS:
                self.holds(("same", name, other), name == other)
        self.holds(("same", "w", ("a",)), True)
        self.holds(("same", ("a",), ("b",)), False)
        self.holds(("same", "low", ("lo",)), True)

    def test_kind(self):
        kinds = {"w": ["word"], "no": ["word"], "r": ["row"], "empty": ["row"], "kept": ["kept"], "high": ["kept"],
                 "cell": ["cell"], "pair": ["pair", "cell"], "void": ["void"], "box": ["box"], "low": ["word"]}
        for name, let in kinds.items():
            for kind in ("word", "row", "kept", "cell", "pair", "void", "box"):
                self.holds(("kind", name, kind), kind in let)
        self.holds(("kind", ("row",), "row"), False)
        self.holds(("kind", ("cell",), "word"), True)

    def test_tests_without_values(self):
        for test in (("same", "new", "w"), ("same", "w", "new"), ("kind", "new", "word"),
                     ("not", ("kind", "new", "row"))):
            for statement in (("if", test, (), ()), ("loop", test, ())):
                self.raises(statement, "unset")

    def test_try(self):
        self.gives(("try", (("pay", 1),), "x", ()), ("on", 0, (at(1),)))
        self.gives(("try", (), "x", (("pay", 1),)), ("on", 0, (at(2),)))

    def test_call(self):
        self.calls(("call", "x", "g", ()), "g")
        self.calls(("call", "x", "h", ("box", ("w",), "top")), "h", ("a", BOX), ("b", "w"), ("c", "hi"))
        self.calls(("call", "x", "swap", ("w", "r")), "swap", ("me", "a"), ("with", ROW))
        self.raises(("call", "x", "g", ("w",)), "count")
        self.raises(("call", "x", "h", ("w", "w")), "count")
        self.raises(("call", "x", "h", ("w", "w", "w", "w")), "count")
        self.raises(("call", "x", "h", ("new",)), "unset")
        self.raises(("call", "x", "h", ("w", "new")), "unset")

    def test_apply(self):
        self.calls(("apply", "x", "kept", ("r",)), "f", ("a", "a"), ("b", ROW))
        self.calls(("apply", "x", "high", ()), "g")
        for name in ("w", "r", "cell"):
            self.raises(("apply", "x", name, ()), "kind")
            self.raises(("apply", "x", name, ("new",)), "unset")
        self.raises(("apply", "x", ("kept",), ()), "kind")
        self.raises(("apply", "x", "kept", ()), "count")
        self.raises(("apply", "x", "kept", ("w", "w")), "count")
        self.raises(("apply", "x", "high", ("w",)), "count")
        self.raises(("apply", "x", "new", ()), "unset")

    def test_send(self):
        self.calls(("send", "x", "cell", "see", ()), "look", ("me", CELL))
        self.calls(("send", "x", "pair", "see", ()), "look", ("me", PAIR))
        self.calls(("send", "x", "pair", "turn", ("r",)), "swap", ("me", PAIR), ("with", ROW))
        for name in ("w", "r", "kept"):
            self.raises(("send", "x", name, "see", ()), "kind")
            self.raises(("send", "x", name, "see", ("new",)), "unset")
        self.raises(("send", "x", "cell", "turn", ("r",)), "method")
        self.raises(("send", "x", "box", "look", ()), "method")
        self.raises(("send", "x", "void", "none", ("new",)), "unset")
        self.raises(("send", "x", "pair", "turn", ()), "count")
        self.raises(("send", "x", "pair", "see", ("w",)), "count")
        self.raises(("send", "x", "new", "see", ()), "unset")

    def test_new(self):
        self.goes(("new", "x", "pair", ("w", ("q",))), x=("thing", "pair", ("a", "q")))
        self.goes(("new", "x", "void", ()), x=VOID)
        for name, value in (("w", "a"), ("r", ROW), ("pair", PAIR), ("kept", KEPT), ("top", "hi")):
            self.goes(("new", "x", "box", (name,)), x=("thing", "box", (value,)))
        self.raises(("new", "x", "box", ("box",)), "deep")
        self.raises(("new", "x", "box", ("high",)), "deep")
        self.raises(("new", "x", "pair", ("w", "r")), "deep")
        self.raises(("new", "x", "cell", ("void",)), "deep")
        self.raises(("new", "x", "pair", ("r",)), "count")
        self.raises(("new", "x", "void", ("box",)), "count")
        self.raises(("new", "x", "box", ()), "count")
        self.raises(("new", "x", "void", ("w", "new")), "unset")

    def test_keep(self):
        self.goes(("keep", "x", "f", ()), x=("kept", "f", ()))
        self.goes(("keep", "x", "f", ("w", "low")), x=("kept", "f", ("a", "lo")))
        self.goes(("keep", "x", "h", ("r", "pair", "kept")), x=("kept", "h", (ROW, PAIR, KEPT)))
        self.raises(("keep", "x", "f", ("w", "r")), "deep")
        self.raises(("keep", "x", "h", ("box",)), "deep")
        self.raises(("keep", "x", "h", ("high",)), "deep")
        self.raises(("keep", "x", "f", ("r", "r", "r")), "count")
        self.raises(("keep", "x", "g", ("box",)), "count")
        self.raises(("keep", "x", "g", ("new",)), "unset")

    def test_get(self):
        self.goes(("get", "x", "pair", "left"), x="a")
        self.goes(("get", "x", "pair", "right"), x="b")
        self.goes(("get", "x", "box", "in"), x=CELL)
        for name in ("w", "r", "kept"):
            self.raises(("get", "x", name, "left"), "kind")
        self.raises(("get", "x", "cell", "right"), "field")
        self.raises(("get", "x", "void", "left"), "field")
        self.raises(("get", "x", "new", "left"), "unset")

    def test_with(self):
        self.goes(("with", "x", "pair", "left", ("q",)), x=("thing", "pair", ("q", "b")))
        self.goes(("with", "x", "pair", "right", "low"), x=("thing", "pair", ("a", "lo")))
        self.goes(("with", "box", "box", "in", "kept"), box=("thing", "box", (KEPT,)))
        for name in ("w", "r", "kept"):
            self.raises(("with", "x", name, "left", "box"), "kind")
            self.raises(("with", "x", name, "left", "new"), "unset")
        self.raises(("with", "x", "cell", "right", "box"), "field")
        self.raises(("with", "x", "pair", "right", "r"), "deep")
        self.raises(("with", "x", "box", "in", "box"), "deep")
        self.raises(("with", "x", "new", "in", "box"), "unset")

    def test_push(self):
        self.goes(("push", "x", "r", ("c",)), x=FULL)
        self.goes(("push", "x", "empty", "w"), x=("row", ("a",)))
        self.goes(("push", "x", "no", "w"), x=("row", ("a",)))
        self.goes(("push", "x", ("none",), "no"), x=("row", ("none",)))
        for name in ("w", "low", "cell", "kept"):
            self.raises(("push", "x", name, "w"), "kind")
        for name in ("r", "cell", "high"):
            self.raises(("push", "x", "r", name), "kind")
            self.raises(("push", "x", "no", name), "kind")
            self.raises(("push", "x", "full", name), "kind")
        self.raises(("push", "x", "full", "w"), "full")
        self.raises(("push", "x", "w", "new"), "unset")
        self.raises(("push", "x", "new", "w"), "unset")

    def test_pop(self):
        self.goes(("pop", "x", "r"), x=("row", ("a",)))
        self.goes(("pop", "x", "full"), x=ROW)
        for name in ("w", "no", "cell", "kept"):
            self.raises(("pop", "x", name), "kind")
        self.raises(("pop", "x", "empty"), "empty")
        self.raises(("pop", "x", "new"), "unset")

    def test_return(self):
        for name, value in LOCALS.items():
            self.gives(("return", name), ("end", ("value", value, SHARED)))
        self.gives(("return", ("w",)), ("end", ("value", "w", SHARED)))
        self.raises(("return", "new"), "unset")

    def test_raise(self):
        self.raises(("raise", "w"), "a")
        self.raises(("raise", ("oh",)), "oh")
        self.raises(("raise", "top"), "hi")
        for name in ("r", "box", "kept"):
            self.raises(("raise", name), "kind")
        self.raises(("raise", "new"), "unset")

    def test_the_end_place(self):
        self.assertEqual(following(program_with(("pay", 1)), at(1)), ("end", ("value", "none", SHARED)))
        self.assertEqual(following(program_with(), at(0)), ("end", ("value", "none", SHARED)))


OH = ("raise", ("oh",))


class Caught(unittest.TestCase):
    def gives(self, place, told, *statements):
        self.assertEqual(following(program_with(*statements), at(place)), told)

    def test_first_and_second_block(self):
        block = ("try", (OH,), "x", (OH,)), ("pay", 1)
        self.gives(1, ("on", 0, (at(2, x="oh"),)), *block)
        self.gives(2, ("end", ("error", "oh", SHARED)), *block)

    def test_an_empty_second_block(self):
        self.gives(1, ("on", 0, (at(2, w="oh"),)), ("try", (OH,), "w", ()), ("pay", 1))
        self.gives(1, ("on", 0, (at(2, w="oh"),)), ("try", (OH,), "w", ()))
        self.gives(2, ("on", 0, (at(0, w="oh"),)), ("loop", ("same", "w", "w"), (("try", (OH,), "w", ()),)))

    def test_the_innermost(self):
        inner = ("try", (OH,), "x", (OH,))
        block = ("try", (inner, OH), "v", (("pay", 1),)), ("pay", 2)
        self.gives(2, ("on", 0, (at(3, x="oh"),)), *block)
        self.gives(3, ("on", 0, (at(5, v="oh"),)), *block)
        self.gives(4, ("on", 0, (at(5, v="oh"),)), *block)
        self.gives(2, ("end", ("error", "oh", SHARED)), ("try", (("pay", 1),), "x", (OH,)))
        block = ("try", (("pay", 1),), "v", (inner, OH))
        self.gives(3, ("on", 0, (at(4, x="oh"),)), block)
        self.gives(4, ("end", ("error", "oh", SHARED)), block)
        self.gives(5, ("end", ("error", "oh", SHARED)), block)

    def test_through_inner_blocks(self):
        test = ("same", "w", "w")
        for inner in (("if", test, (OH,), ()), ("if", test, (), (OH,)), ("loop", test, (OH,))):
            self.gives(2, ("on", 0, (at(3, x="oh"),)), ("try", (inner,), "x", (("pay", 1),)))
            self.gives(2, ("end", ("error", "oh", SHARED)), ("try", (), "x", (inner,)))
        self.gives(1, ("on", 0, (at(2, x="unset"),)), ("try", (("loop", ("same", "new", "w"), ()),), "x", ()))


class Wrong(unittest.TestCase):
    def test_bad_point(self):
        program = program_with(("call", "x", "g", ()))
        end = ("value", "a", SHARED)
        for thing in [*odd_objects(), at(2), at(True), list(at(0)), ("t", 0, (), ()), ("t", 0, [], SHARED)]:
            with self.assertRaises(BadPoint):
                following(program, thing)
            with self.assertRaises(BadPoint):
                back(program, thing, end)
            with self.assertRaises(BadPoint):
                back(program, thing, None)

    def test_no_call_follows(self):
        for statement in (("set", "x", "w"), ("ask", "x", ("a", "b")), ("return", "w"), OH, ("call", "x", "g", ("w",)),
                          ("apply", "x", "w", ()), ("send", "x", "cell", "none", ()), ("keep", "x", "g", ()),
                          ("call", "x", "h", ("new", "w", "w"))):
            for end in (("value", "a", SHARED), None):
                with self.assertRaises(BadPoint):
                    back(program_with(statement), at(0), end)
        with self.assertRaises(BadPoint):
            back(program_with(), at(0), ("value", "a", SHARED))

    def test_bad_end(self):
        program = program_with(("call", "x", "g", ()))
        for thing in [*odd_objects(), ["value", "a", SHARED], ("value", "a", ()), ("error", ROW, SHARED),
                      ("value", "a", ("lo", BOX)), ("end", "a", SHARED), ("value", "a", SHARED, 0)]:
            with self.assertRaises(BadEnd):
                back(program, at(0), thing)


class Back(unittest.TestCase):
    CALLS = (("call", "x", "g", ()), ("apply", "x", "high", ()), ("send", "x", "cell", "see", ()))

    def test_a_value(self):
        for statement in self.CALLS:
            for value in LOCALS.values():
                self.assertEqual(back(program_with(statement), at(0), ("value", value, ("new", ROW))),
                                 at(1, ("new", ROW), x=value))
            program = program_with(("loop", ("same", "w", "w"), (statement,)))
            self.assertEqual(back(program, at(1, x="old"), ("value", "a", SHARED)), at(0, x="a"))

    def test_an_error(self):
        for statement in self.CALLS:
            end = ("error", "oh", ("new", ROW))
            self.assertEqual(back(program_with(statement), at(0), end), end)
            program = program_with(("try", (statement,), "w", (statement,)), ("pay", 1))
            self.assertEqual(back(program, at(1), end), at(2, ("new", ROW), w="oh"))
            self.assertEqual(back(program, at(2), end), end)
            program = program_with(("try", (statement,), "v", ()), ("pay", 1))
            self.assertEqual(back(program, at(1), end), at(2, ("new", ROW), v="oh"))

    def test_in_a_program_with_lasts(self):
        program = program_with(("last", (("call", "x", "g", ()),), (("pay", 1),)))
        self.assertEqual(back(program, at(1), ("error", "oh", SHARED)), at(2, za="oh"))
        self.assertEqual(back(program, at(1), ("value", "a", SHARED)), at(4, x="a"))


if __name__ == "__main__":
    unittest.main()
