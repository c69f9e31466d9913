"""Which points are reached, which ends can come, and how many there may be (4.2, 4.3, 0.5)."""

import unittest

from everyend.errors import BadCall, BadEnd, TooMany
from everyend.exploring import can_come, ends, reached
from everyend.points import end_order, is_end
from tests.samples import COIN, RICH, WORD, odd_objects, one
from tests.small import pad

CALL = ("f", (), ())
DONE = ("value", "done", ())
NONE = ("value", "none", ())
YES = ("same", ("a",), ("a",))
WORDS = ("a", "b", "c")


def crowd(many):
    """A program of which a call of f, with ahead of it so many statements, reaches 2992 points and so many."""
    return one(*pad(many), ("ask", "a", WORDS), ("ask", "b", WORDS), *pad(331))


class Reached(unittest.TestCase):
    def test_calls_that_end_at_once(self):
        self.assertEqual(reached(WORD, ("f", ("a",), ())), 1)
        self.assertEqual(reached(one(), CALL), 1)
        self.assertEqual(reached(one(("return", "x")), CALL), 1)
        self.assertEqual(reached(one(("pay", 1)), CALL), 2)

    def test_asks_and_branches(self):
        self.assertEqual(reached(COIN, CALL), 7)
        self.assertEqual(reached(one(("ask", "x", WORDS)), CALL), 4)
        self.assertEqual(reached(one(("if", YES, (("pay", 1),), (("pay", 2),))), CALL), 3)

    def test_what_is_forgotten_is_one_point(self):
        self.assertEqual(reached(one(("ask", "x", WORDS), ("set", "x", ("a",)), ("pay", 1)), CALL), 6)

    def test_loops(self):
        self.assertEqual(reached(one(("loop", YES, ())), CALL), 1)
        self.assertEqual(reached(one(("loop", YES, (("pay", 1), ("pay", 2))), ("pay", 3)), CALL), 3)
        # The loop without x and with it, the ask likewise, and the end place.
        loop = ("loop", ("not", ("same", "x", ("b",))), (("ask", "x", ("a", "b")),))
        self.assertEqual(reached(one(("set", "x", ("a",)), loop), CALL), 5)

    def test_endless_calls(self):
        self.assertEqual(reached(one(("call", "x", "f", ()), ("pay", 1)), CALL), 1)
        self.assertEqual(ends(one(("call", "x", "f", ()), ("pay", 1)), CALL), [])
        swap = one(("call", "x", "f", ("b", "a")), parameters=("a", "b"))
        self.assertEqual(reached(swap, ("f", ("v", "w"), ())), 2)
        self.assertEqual(reached(swap, ("f", ("v", "v"), ())), 1)
        self.assertEqual(ends(swap, ("f", ("v", "w"), ())), [])

    def test_behind_a_call_that_never_ends(self):
        program = one(("call", "x", "g", ()), ("pay", 1), ("pay", 2), others={"g": ((), 1, (("loop", YES, ()),))})
        self.assertEqual(reached(program, CALL), 2)
        self.assertEqual(ends(program, CALL), [])
        # One of two called functions ends, and that just with an error.
        program = one(("ask", "a", ("l", "r")), ("if", ("same", "a", ("l",)), (("call", "x", "g", ()), ("pay", 1)),
                                                 (("call", "x", "h", ()), ("pay", 2))), others={
            "g": ((), 1, (("loop", YES, ()),)), "h": ((), 1, (("raise", ("oh",)),))})
        self.assertEqual(reached(program, CALL), 7)
        self.assertEqual(ends(program, CALL), [("error", "oh", ())])

    def test_called_from_several_places(self):
        program = one(("call", "x", "g", (("a",),)), ("call", "y", "g", (("a",),)), ("call", "x", "g", (("b",),)),
                      ("return", "y"), others={"g": (("w",), 1, (("pay", 1), ("return", "w")))})
        self.assertEqual(reached(program, CALL), 4 + 2 * 2)
        self.assertEqual(ends(program, CALL), [("value", "a", ())])

    def test_callers_that_differ_in_what_is_replaced(self):
        """Where they go on behind the call is told by the name, too."""
        functions = {"g": ((), 1, (("return", ("w",)),))}
        program = one(("ask", "a", ("l", "r")), ("set", "x", ("none",)), ("set", "y", ("none",)),
                      ("if", ("same", "a", ("l",)), (("set", "a", ("q",)), ("call", "x", "g", ())),
                       (("set", "a", ("q",)), ("call", "y", "g", ()))), ("if", ("same", "x", ("w",)), (
                           ("return", ("left",)),), (("return", ("right",)),)), others=functions)
        self.assertEqual(ends(program, CALL), [("value", "left", ()), ("value", "right", ())])
        for caught in (("x", "y"), ("y", "x")):
            calls = [(("try", (("set", "a", ("q",)), ("call", "z", "g", ())), name, ()),) for name in caught]
            program = one(("ask", "a", ("l", "r")), ("set", "x", ("oh",)), ("set", "y", ("oh",)),
                          ("if", ("same", "a", ("l",)), *calls), ("if", ("same", "x", ("ah",)), (
                              ("return", ("left",)),), (("return", ("right",)),)), others={
                "g": ((), 1, (("raise", ("ah",)),))})
            self.assertEqual(ends(program, CALL), [("value", "left", ()), ("value", "right", ())])

    def test_bad_calls(self):
        for thing in [*odd_objects(), ("f", [], ()), ("f", ("a",), ()), ("g", (), ()), ("f", (), ("a",)), ["f", (), ()]]:
            for told in (reached, ends):
                self.assertRaises(BadCall, told, COIN, thing)
            self.assertRaises(BadCall, can_come, COIN, thing, None)

    def test_3000_and_3001(self):
        self.assertEqual(reached(crowd(7), CALL), 2999)
        self.assertEqual(reached(crowd(8), CALL), 3000)
        self.assertEqual(ends(crowd(8), CALL), [NONE])
        self.assertIs(can_come(crowd(8), CALL, NONE), True)
        for many in (9, 40):
            for told in (reached, ends):
                with self.assertRaises(TooMany) as caught:
                    told(crowd(many), CALL)
                self.assertEqual(caught.exception.most, 3000)
            with self.assertRaises(TooMany) as caught:
                can_come(crowd(many), CALL, NONE)
            self.assertEqual(caught.exception.most, 3000)


class Ends(unittest.TestCase):
    def test_e04(self):
        self.assertEqual(ends(WORD, ("f", ("oh",), ())), [("error", "oh", ())])

    def test_no_end_and_one(self):
        self.assertEqual(ends(one(("loop", YES, ())), CALL), [])
        self.assertEqual(ends(COIN, CALL), [DONE])
        self.assertEqual(ends(one(), CALL), [NONE])

    def test_of_all_kinds_in_order(self):
        cell = ("thing", "cell", ("w",))
        box = ("thing", "box", (cell,))
        kept = ("kept", "look", ())
        functions = RICH.functions
        functions["f"] = (("c", "k"), 1, (
            ("ask", "a", ("u", "v", "w")), ("ask", "b", ("u", "v", "w")), ("share", "top", "b"),
            ("if", ("same", "a", ("u",)), (("if", ("same", "b", ("u",)), (("return", "c"),), (("return", "k"),)),), ()),
            ("if", ("same", "a", ("v",)), (("push", "r", ("none",), "b"), ("share", "low", "r"), ("return", "r")), ()),
            ("if", ("same", "b", ("u",)), (("raise", ("zz",)),), ()),
            ("if", ("same", "b", ("v",)), (("raise", "c"),), (("return", "b"),))))
        program = type(RICH)(RICH.shared, RICH.classes, functions)
        call = ("f", (box, kept), ("l", cell))
        told = ends(program, call)
        self.assertEqual(told, [
            ("error", "kind", ("l", "v")), ("error", "zz", ("l", "u")),
            ("value", ("row", ("u",)), (("row", ("u",)), "u")), ("value", ("row", ("v",)), (("row", ("v",)), "v")),
            ("value", ("row", ("w",)), (("row", ("w",)), "w")),
            ("value", box, ("l", "u")), ("value", kept, ("l", "v")), ("value", kept, ("l", "w")),
            ("value", "w", ("l", "w"))])
        self.assertEqual(told, sorted(told, key=end_order))
        for end in told:
            self.assertIs(can_come(program, call, end), True)
        for end in (("error", "zz", ("l", "v")), ("value", "v", ("l", "v")), ("value", "u", ("l", "u")), NONE[:2] + (
                ("lo", "hi"),), ("value", cell, ("l", "u"))):
            self.assertTrue(is_end(program, end))
            self.assertIs(can_come(program, call, end), False)

    def test_shared_values_in_their_texts_order(self):
        program = one(("ask", "x", ("b", "a")), ("share", "s", "x"), ("ask", "x", ("d", "c")), ("share", "t", "x"),
                      ("return", ("a",)), shared={"t": "w", "s": "w"})
        self.assertEqual(ends(program, ("f", (), ("w", "w"))),
                         [("value", "a", (left, right)) for left in "ab" for right in "cd"])

    def test_a_new_list_each_time(self):
        told = ends(COIN, CALL)
        told.append(None)
        self.assertEqual(ends(COIN, CALL), [DONE])

    def test_errors_in_order(self):
        """BadCall, BadEnd, TooMany."""
        crowded = crowd(9)
        for thing in odd_objects():
            self.assertRaises(BadCall, can_come, crowded, thing, DONE)
            self.assertRaises(BadEnd, can_come, crowded, CALL, thing)
        for thing in (["value", "a", ()], ("value", "a", ("a",)), ("error", ("row", ()), ()), ("value", "A", ())):
            self.assertRaises(BadEnd, can_come, COIN, CALL, thing)
        self.assertRaises(TooMany, can_come, crowded, CALL, DONE)
        self.assertIs(can_come(COIN, CALL, NONE), False)


if __name__ == "__main__":
    unittest.main()
