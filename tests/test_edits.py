"""What functions use, programs with one function changed, and what of price tables lasts (11.1, 11.2)."""

import unittest

from everyend.edits import lasting, uses, with_function, without
from everyend.errors import BadCall, BadName, BadProgram, BadTable, NoName
from everyend.following import back, following
from everyend.points import entry
from everyend.pricejudge import is_price_table
from everyend.prices import price_table
from everyend.programs import Program
from tests.everything import WHOLE, Anything
from tests.samples import COIN, RICH, WORD, odd_objects, one
from tests.small import Small
from tests.steep import Steep

CALL = ("f", (), ())
SHARED = {"s": "w", "u": "w"}
OTHERS = {"g": (("a",), 1, ()), "h": ((), 1, ())}
CLASSES = {"c": (None, 1, ("s", "g"), {}), "d": ("c", 2, (), {"u": "g"})}
WRONG_FUNCTIONS = [None, (), ("a", 1, ()), ((), 1), ((), 3, ()), ((), True, ()), (["a"], 1, ()), (("a", "a"), 1, ()),
                   (("A",), 1, ()), (("a", "b", "c", "d", "e"), 1, ())]


class Uses(unittest.TestCase):
    def told(self, statement, functions=(), classes=(), shared=()):
        """What these statements use by themselves, and in inner blocks of all kinds."""
        yes = ("same", ("a",), ("a",))
        for inner in (statement, ("if", yes, (statement,), ()), ("if", yes, (), (statement,)), ("loop", yes, (statement,)),
                      ("try", (statement,), "q", ()), ("try", (), "q", (statement,)), ("last", (), (statement,)),
                      ("if", yes, (("loop", yes, (("try", (), "q", (("last", (), (statement,)),)),)),), ()),
                      *(() if statement[0] == "return" else (("last", (statement,), ()),))):
            program = one(("pay", 1), inner, ("pay", 2), shared=SHARED, classes=CLASSES, others=OTHERS)
            self.assertEqual(uses(program, "f"), (tuple(functions), tuple(classes), tuple(shared)))

    def test_functions(self):
        self.told(("call", "x", "g", ()), functions=("g",))
        self.told(("keep", "x", "h", ()), functions=("h",))
        self.told(("call", "f", "f", ()), functions=("f",))

    def test_classes(self):
        self.told(("new", "x", "c", ()), classes=("c",))
        self.told(("new", "c", "d", (("s",),)), functions=("g",), classes=("c", "d"))
        for nots in range(4):
            for kind, classes in (("c", ("c",)), ("word", ()), ("row", ()), ("kept", ())):
                test = ("kind", "x", kind)
                for _ in range(nots):
                    test = ("not", test)
                self.told(("if", test, (), ()), classes=classes)
                self.told(("loop", test, ()), classes=classes)

    def test_shared_names_that_are_set(self):
        self.told(("share", "s", ("u",)), shared=("s",))
        self.told(("share", "u", "s"), shared=("s", "u"))

    def test_names_of_locals_that_statements_set(self):
        """Each x of a statement counts, also where it is a local that hides the shared name."""
        for statement in (("set", "s", ("u",)), ("ask", "s", ("u", "w")), ("get", "s", "x", "u"), ("push", "s", "x", "x"),
                          ("with", "s", "x", "u", ("u",)), ("send", "s", "x", "u", ()), ("apply", "s", "x", ()),
                          ("pop", "s", "x"), ("try", (), "s", ())):
            self.told(statement, shared=("s",))
        self.told(("call", "s", "g", ()), functions=("g",), shared=("s",))
        self.told(("keep", "u", "h", ()), functions=("h",), shared=("u",))
        self.told(("new", "s", "c", ("u",)), classes=("c",), shared=("s", "u"))

    def test_shared_names_as_expressions(self):
        for statement in (("set", "x", "s"), ("return", "s"), ("raise", "s"), ("pop", "x", "s"), ("push", "x", "s", "x"),
                          ("push", "x", "x", "s"), ("get", "x", "s", "u"), ("with", "x", "s", "u", ("u",)),
                          ("with", "x", "x", "u", "s"), ("apply", "x", "s", ()), ("apply", "x", "x", ("x", "s")),
                          ("send", "x", "s", "u", ()), ("send", "x", "x", "u", ("s",)),
                          ("if", ("same", "s", "x"), (), ()), ("if", ("same", "x", "s"), (), ()),
                          ("loop", ("not", ("kind", "s", "word")), ())):
            self.told(statement, shared=("s",))
        self.told(("call", "x", "g", ("x", "u", "s")), functions=("g",), shared=("s", "u"))
        self.told(("keep", "x", "g", ("s",)), functions=("g",), shared=("s",))
        self.told(("new", "x", "c", ("s",)), classes=("c",), shared=("s",))

    def test_what_is_no_such_name(self):
        for statement in (("set", "x", ("s",)), ("ask", "x", ("s", "u")), ("pay", 1), ("get", "x", "x", "s"),
                          ("with", "x", "x", "u", ("s",)), ("send", "x", "x", "s", ()), ("raise", ("s",)),
                          ("if", ("same", ("s",), ("g",)), (), ()), ("raise", "g"), ("raise", "c"), ("set", "c", "g")):
            self.told(statement)

    def test_a_local_that_hides_a_shared_name(self):
        self.assertEqual(uses(one(("set", "s", ("a",)), ("return", "s"), shared=SHARED), "f"), ((), (), ("s",)))
        self.assertEqual(uses(one(("return", "s"), parameters=("s", "u"), shared=SHARED), "f"), ((), (), ("s",)))
        self.assertEqual(uses(one(parameters=("s", "u"), shared=SHARED), "f"), ((), (), ()))

    def test_classes_use_their_parents_and_the_functions_of_their_methods(self):
        classes = {"a": (None, 1, (), {"m": "h"}), "b": ("a", 1, (), {"m": "g"}), "c": ("b", 1, (), {}),
                   "d": (None, 1, (), {}), "e": ("c", 1, (), {"n": "k"})}
        others = {"g": (("x",), 1, (("call", "y", "i", ()),)), "h": (("x",), 1, (("share", "s", ("a",)),)),
                  "i": ((), 1, (("return", "u"),)), "k": (("x",), 1, ())}
        for kind in "abcde":
            program = one(("new", "x", kind, ()), shared=SHARED, classes=classes, others=others)
            told = {"a": (("h",), ("a",), ("s",)), "b": (("g", "h", "i"), ("a", "b"), ("s", "u")),
                    "c": (("g", "h", "i"), ("a", "b", "c"), ("s", "u")), "d": ((), ("d",), ()),
                    "e": (("g", "h", "i", "k"), ("a", "b", "c", "e"), ("s", "u"))}[kind]
            self.assertEqual(uses(program, "f"), told)

    def test_what_is_used_by_what_is_used(self):
        others = {"g": ((), 1, (("keep", "x", "h", ()), ("new", "x", "d", ()))), "h": ((), 1, (("return", "u"),)),
                  "i": ((), 1, (("call", "x", "f", ()),))}
        program = one(("call", "x", "g", ()), shared=SHARED, classes={"d": (None, 1, (), {})}, others=others)
        self.assertEqual(uses(program, "f"), (("g", "h"), ("d",), ("u",)))
        self.assertEqual(uses(program, "i"), (("f", "g", "h"), ("d",), ("u",)))
        self.assertEqual(uses(program, "h"), ((), (), ("u",)))

    def test_the_function_itself(self):
        self.assertEqual(uses(COIN, "f"), (("f",), (), ()))
        self.assertEqual(uses(WORD, "f"), ((), (), ()))
        around = one(("call", "x", "g", ()), others={"g": ((), 1, (("keep", "x", "f", ()),)), "h": ((), 1, (
            ("call", "x", "g", ()),))})
        self.assertEqual([uses(around, name)[0] for name in "fgh"], [("f", "g"), ("f", "g"), ("f", "g")])
        methods = Program({}, {"c": (None, 1, (), {"m": "f"})}, {"f": (("a",), 1, (("if", ("kind", "a", "c"), (), ()),))})
        self.assertEqual(uses(methods, "f"), (("f",), ("c",), ()))

    def test_whole(self):
        self.assertEqual(uses(WHOLE, "all"), (("all", "look", "swap"), ("cell", "pair", "void"), ("low", "top")))
        self.assertEqual(uses(WHOLE, "look"), ((), (), ()))

    def test_ascending_and_closed(self):
        for seed in range(200):
            program = Anything(seed).program
            for function in program.functions:
                told = uses(program, function)
                self.assertEqual(told, tuple(tuple(sorted(set(names))) for names in told))
                for name in told[0]:
                    for own, other in zip(told, uses(program, name)):
                        self.assertLessEqual(set(other), set(own))

    def test_functions_that_are_none(self):
        for thing in [*odd_objects(), "q", "c", "s"]:
            with self.assertRaises(NoName) as told:
                uses(WHOLE, thing)
            self.assertIs(told.exception.name, thing)


class Changed(unittest.TestCase):
    def test_a_new_function(self):
        function = (("a",), 2, (("call", "x", "new", ("a",)),))
        told = with_function(RICH, "new", function)
        self.assertEqual(told, Program(RICH.shared, RICH.classes, {**RICH.functions, "new": function}))
        self.assertNotIn("new", RICH.functions)

    def test_one_instead_of_another(self):
        told = with_function(COIN, "f", ((), 1, ()))
        self.assertEqual(told, one())
        self.assertEqual(with_function(COIN, "f", COIN.functions["f"]), COIN)

    def test_with_function_errors(self):
        for thing in [*odd_objects(), "A", "abcdefghi"]:
            self.assertRaises(BadName, with_function, WORD, thing, None)
        for thing in [*WRONG_FUNCTIONS, *odd_objects()]:
            self.part("functions", with_function, WORD, "g", thing)
        for thing in [*odd_objects(), (("pay", 10),), (("call", "x", "q", ()),), (("pay", 0),) * 13, (("share", "s", "a"),)]:
            if thing != ():
                self.part("block g", with_function, WORD, "g", ((), 1, thing))
                self.part("block f", with_function, WORD, "f", ((), 1, thing))
        twelve = Program({}, {}, {name: ((), 1, ()) for name in "abcdefghijkl"})
        self.part("functions", with_function, twelve, "m", ((), 1, ()))
        self.assertEqual(with_function(twelve, "l", (("a",), 1, ())).functions["l"], (("a",), 1, ()))
        self.part("methods", with_function, RICH, "look", ((), 1, ()))
        lasts = ("if", ("same", "a", "a"), (("last", (), ()),) * 12, ())
        self.part("last", with_function, WORD, "g", ((), 1, (lasts,) * 3))

    def part(self, part, told, *arguments):
        with self.assertRaises(BadProgram) as caught:
            told(*arguments)
        self.assertEqual(caught.exception.part, part)

    def test_without(self):
        told = without(RICH, "h")
        functions = RICH.functions
        del functions["h"]
        self.assertEqual(told, Program(RICH.shared, RICH.classes, functions))
        self.assertIn("h", RICH.functions)
        # What a function itself names is of no matter.
        program = one(("call", "x", "g", ()), others={"g": ((), 1, ())})
        self.assertEqual(without(program, "f"), Program({}, {}, {"g": ((), 1, ())}))
        again = one(others={"g": ((), 1, (("call", "x", "g", ()),))})
        self.assertEqual(without(again, "g"), one())

    def test_without_errors(self):
        for thing in [*odd_objects(), "q"]:
            with self.assertRaises(NoName) as caught:
                without(WHOLE, thing)
            self.assertIs(caught.exception.name, thing)
        others = {"g": (("a",), 1, ())}
        self.part("block f", without, one(("call", "x", "g", ()), others=others), "g")
        self.part("block f", without, one(("loop", ("same", "a", "a"), (("keep", "x", "g", ()),)), others=others), "g")
        self.part("methods", without, one(others=others, classes={"c": (None, 1, (), {"m": "g"})}), "g")
        self.part("functions", without, COIN, "f")
        self.part("functions", without, one(), "f")


def led_to(program, table, point):
    """All points that are led to from a point of a table, itself too, by what the document says of lasting."""
    found, waiting = {point}, [point]
    while waiting:
        now = waiting.pop()
        told = following(program, now)
        others = []
        if told[0] == "on":
            others = list(told[2])
        elif told[0] == "call":
            afters = [back(program, now, end) for end in table[told[1]]]
            others = [told[1]] + [after for after in afters if len(after) == 4]
        for other in others:
            if other not in found:
                found.add(other)
                waiting.append(other)
    return found


class Lasting(unittest.TestCase):
    def test_points_of_the_function_and_what_leads_to_it(self):
        program = one(("call", "x", "g", ()), ("pay", 1), ("call", "x", "h", ()), ("pay", 2), others=OTHERS)
        program = with_function(program, "g", ((), 1, (("pay", 3),)))
        table = price_table(program, CALL)
        self.assertEqual(lasting(program, CALL, table, "f"), {point: table[point] for point in table if point[0] != "f"})
        told = lasting(program, CALL, table, "h")
        self.assertEqual({(point[0], point[1]) for point in told}, {("g", 0), ("g", 1), ("f", 3), ("f", 4)})
        told = lasting(program, CALL, table, "g")
        self.assertEqual({(point[0], point[1]) for point in told}, {("h", 0), ("f", 1), ("f", 2), ("f", 3), ("f", 4)})

    def test_what_calls_come_back_to(self):
        """g itself never leads to h, and what stands behind the call of g does, if g comes back so."""
        turn = ("if", ("same", "x", ("a",)), (("call", "y", "h", ()),), ())
        for word, rest in (("a", False), ("b", True)):
            others = {"g": ((), 1, (("return", (word,)),)), "h": ((), 1, ())}
            program = one(("call", "x", "g", ()), turn, others=others)
            table = price_table(program, CALL)
            self.assertEqual(entry(program, CALL) in lasting(program, CALL, table, "h"), rest)
        # An error that is caught comes back, too; one that is not ends the frame.
        others = {"g": ((), 1, (("raise", ("a",)),)), "h": ((), 1, ())}
        for begin, rest in (((("try", (("call", "x", "g", ()),), "x", ()), turn), False),
                            ((("call", "x", "g", ()), turn), True)):
            program = one(*begin, others=others)
            table = price_table(program, CALL)
            told = lasting(program, CALL, table, "h")
            self.assertEqual(entry(program, CALL) in told, rest)

    def test_ends_of_the_table_that_never_come(self):
        """The table's own ends count, and so do points that are never reached."""
        turn = ("if", ("same", "x", ("a",)), (("call", "y", "h", ()),), ())
        others = {"g": ((), 1, (("return", ("b",)),)), "h": ((), 1, ())}
        program = one(("call", "x", "g", ()), turn, others=others)
        table = price_table(program, CALL)
        self.assertIn(entry(program, CALL), lasting(program, CALL, table, "h"))
        more = {point: dict(row) for point, row in table.items()}
        more[("g", 0, (), ())][("value", "a", ())] = (0, None)
        x = (("x", "a"),)
        for point in (("f", 1, x, ()), ("f", 2, x, ()), ("f", 3, (*x, ("y", "none")), ()), ("h", 0, (), ())):
            more[point] = {("value", "none", ()): (0, None)}
        more[("f", 0, (), ())][("value", "none", ())] = (0, None)
        self.assertTrue(is_price_table(program, CALL, more))
        told = lasting(program, CALL, more, "h")
        self.assertEqual({(point[0], point[1], point[2]) for point in told},
                         {("g", 0, ()), ("f", 1, (("x", "b"),)), ("f", 3, (("x", "b"),)), ("f", 3, (*x, ("y", "none")))})
        for point in told:
            self.assertEqual(told[point], more[point])

    def test_recursion(self):
        table = price_table(COIN, CALL)
        self.assertEqual(lasting(COIN, CALL, table, "f"), {})
        program = with_function(COIN, "g", ((), 1, ()))
        self.assertEqual(lasting(program, CALL, table, "g"), table)

    def test_it_is_new(self):
        program = with_function(COIN, "g", ((), 1, ()))
        table = price_table(program, CALL)
        before = {point: dict(row) for point, row in table.items()}
        told = lasting(program, CALL, table, "g")
        self.assertIsNot(told, table)
        for row in told.values():
            row.clear()
        told.clear()
        self.assertEqual(table, before)

    def test_errors_in_order(self):
        table = price_table(COIN, CALL)
        for thing in odd_objects():
            self.assertRaises(BadCall, lasting, COIN, thing, None, None)
            self.assertRaises(BadTable, lasting, COIN, CALL, thing, None)
            self.assertRaises(BadTable, lasting, COIN, CALL, {entry(COIN, CALL): thing}, None)
        for thing in [*odd_objects(), "g"]:
            with self.assertRaises(NoName) as caught:
                lasting(COIN, CALL, table, thing)
            self.assertIs(caught.exception.name, thing)
        row = table[entry(COIN, CALL)]
        for wrong in ({**table, entry(COIN, CALL): {("value", "done", ()): (1, None)}},
                      {point: row for point in list(table)[:-1]}, {}):
            self.assertRaises(BadTable, lasting, COIN, CALL, wrong, "f")
        # A price table, but not of this call.
        self.assertRaises(BadTable, lasting, WORD, ("f", ("b",), ()), price_table(WORD, ("f", ("a",), ())), "f")

    def test_by_what_the_document_says(self):
        told = {True: 0, False: 0}
        for seed in range(150):
            small = (Small, Steep)[seed % 3 == 0](seed)
            table = price_table(small.program, small.call)
            for name in small.program.functions:
                row = lasting(small.program, small.call, table, name)
                for point in list(table)[::7]:
                    rest = all(other[0] != name for other in led_to(small.program, table, point))
                    self.assertEqual(row.get(point), table[point] if rest else None)
                    told[rest] += 1
        self.assertGreater(min(told.values()), 500)

    def test_the_fact(self):
        """What lasts is a price table in each program with another block; so is what lasts of larger tables."""
        seen = {"all": 0, "part": 0}
        for seed in range(300):
            kind = (Small, Steep)[seed % 3 == 0]
            small, other = kind(seed), kind(seed + 10000)
            program = small.program
            table = price_table(program, small.call)
            for call in [("g", ("w",), ("w",)), ("f", ("b",), ("a",)), ("g", ("c",), ("a",))]:
                table.update(price_table(program, call))
            for name in program.functions:
                rest = lasting(program, small.call, table, name)
                parameters, rank, _ = program.functions[name]
                edited = with_function(program, name, (parameters, rank, other.program.functions["f"][2]))
                for call in (small.call, ("g", ("w",), ("w",)), ("f", ("b",), ("a",)), ("g", ("c",), ("a",))):
                    if entry(program, call) in rest:
                        self.assertIs(is_price_table(edited, call, rest), True)
                        seen["all" if len(rest) == len(table) else "part"] += 1
        self.assertGreater(min(seen.values()), 100)


if __name__ == "__main__":
    unittest.main()
