"""The examples of the document, and its interface (the errors aside, for which see test_errors)."""

import importlib
import inspect
import unittest

from everyend.depths import deepest, depth
from everyend.desk import Desk
from everyend.exploring import ends
from everyend.goingon import always_ends, is_going_on
from everyend.growing import is_growing
from everyend.papers import cheapest
from everyend.points import entry
from everyend.prices import greatest, least
from everyend.programs import Program as P
from everyend.runs import Run, ran
from everyend.texts import program_text
from everyend.values import value_text

coin = P({}, {}, {"f": ((), 1, (
    ("ask", "x", ("no", "yes")), ("if", ("same", "x", ("yes",)), (("pay", 2), ("call", "y", "f", ())), ()),
    ("return", ("done",))))})
word = P({}, {}, {"f": (("a",), 1, (("raise", "a"),))})

FUNCTIONS = {
    "values": "is_value(program, thing) level(program, value) value_text(value)",
    "programs": "fields_of(program, class) method_of(program, class, method)",
    "plain": "plain(program)",
    "points": "is_point(program, thing) is_call(program, thing) is_end(program, thing) entry(program, call) "
              "begin_call(program, function, arguments)",
    "following": "following(program, point) back(program, point, end)",
    "runs": "ran(program, call, answers)",
    "exploring": "reached(program, call) ends(program, call) can_come(program, call, end)",
    "prices": "price_table(program, call) least(program, call, end) greatest(program, call, end)",
    "pricejudge": "is_price_table(program, call, thing)",
    "papers": "cheapest(program, call, end) dearest(program, call, end) fewest_steps(program, call, end)",
    "growing": "growing(program, call, end) is_growing(program, call, end, thing)",
    "goingon": "going_on(program, call) is_going_on(program, call, thing) always_ends(program, call) "
               "longest(program, call)",
    "ranktables": "rank_table(program, call) is_rank_table(program, call, thing)",
    "depths": "depth(program, call, end) shallow(program, call, end) deepest(program, call)",
    "alike": "parting(one, first, other, second, rows)",
    "rewritings": "renamed(program, function, names) fixed(program, function, words, name) "
                  "caught(program, function, name) only(program, function)",
    "edits": "uses(program, function) with_function(program, name, function) without(program, name) "
             "lasting(program, call, table, name)",
    "texts": "program_text(program)",
    "reading": "read_program(text)",
}
METHODS = {
    ("programs", "Program"): "__init__(shared, classes, functions) __eq__(other)",
    ("runs", "Run"): "__init__(program, call) asks() step(answer) back(many) to(function, place, limit) copy()",
    ("desk", "Desk"): "__init__() tell(line) kept(name) undoable() would(line)",
}


def told(text):
    """Pairs of the names that are told and of how many arguments they have."""
    for part in text.replace(", ", ",").split(" "):
        name, _, arguments = part.rstrip(")").partition("(")
        yield name, len(arguments.split(",")) if arguments else 0


class Examples(unittest.TestCase):
    def test_e01(self):
        self.assertEqual(value_text(("row", ("a", "b"))), "[a b]")

    def test_e02(self):
        self.assertEqual(entry(word, ("f", ("no",), ())), ("f", 0, (("a", "no"),), ()))

    def test_e03(self):
        self.assertEqual(ran(coin, ("f", (), ()), ["yes", "no"]), (("value", "done", ()), 2, 8))

    def test_e04(self):
        self.assertEqual(ends(word, ("f", ("oh",), ())), [("error", "oh", ())])

    def test_e05(self):
        self.assertEqual(least(coin, ("f", (), ()), ("value", "done", ())), 0)
        self.assertIsNone(greatest(coin, ("f", (), ()), ("value", "done", ())))

    def test_e06(self):
        self.assertEqual(cheapest(coin, ("f", (), ()), ("value", "done", ())), ("no",))

    def test_e07(self):
        self.assertIs(is_growing(coin, ("f", (), ()), ("value", "done", ()), (("yes", "no"), 0, 4)), True)

    def test_e08(self):
        self.assertIs(is_going_on(coin, ("f", (), ()), (("yes",), 0, 4)), True)
        self.assertIs(always_ends(word, ("f", ("a",), ())), True)

    def test_e09(self):
        self.assertEqual(depth(coin, ("f", (), ()), ("value", "done", ())), 1)
        self.assertIsNone(deepest(coin, ("f", (), ())))

    def test_e10(self):
        self.assertEqual(program_text(word), "function f 1 a\n  raise a\n")


class Interface(unittest.TestCase):
    def test_functions(self):
        for module, text in FUNCTIONS.items():
            for name, many in told(text):
                function = getattr(importlib.import_module(f"everyend.{module}"), name)
                self.assertTrue(inspect.isfunction(function), name)
                self.assertEqual(function.__module__, f"everyend.{module}")
                self.assertEqual(len(inspect.signature(function).parameters), many, name)

    def test_classes(self):
        for (module, name), text in METHODS.items():
            kind = getattr(importlib.import_module(f"everyend.{module}"), name)
            self.assertEqual(kind.__module__, f"everyend.{module}")
            for method, many in told(text):
                self.assertEqual(len(inspect.signature(vars(kind)[method]).parameters), many + 1, (name, method))

    def test_attributes(self):
        self.assertEqual((word.shared, word.classes, list(word.functions)), ({}, {}, ["f"]))
        run = Run(coin, ("f", (), ()))
        self.assertEqual((run.frames, run.end, run.price, run.steps), ((("f", 0, (), ()),), None, 0, 0))
        self.assertIsInstance(Desk(), Desk)


if __name__ == "__main__":
    unittest.main()
