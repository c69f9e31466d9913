"""Programs rewritten (10.1 to 10.4)."""

import random
import unittest

from everyend.alike import parting
from everyend.edits import uses
from everyend.errors import BadName, BadNames, BadProgram, BadWords, NoName
from everyend.points import begin_call
from everyend.prices import entry_row
from everyend.programs import Program
from everyend.rewritings import caught, fixed, only, renamed
from tests.everything import WHOLE, Anything
from tests.samples import COIN, RICH, WORD, odd_objects, one
from tests.small import Small
from tests.steep import Steep

ASK = ("ask", "x", ("a", "b"))
SAME = ("same", "x", ("a",))
WORDS = ("a", "w", "c")
TWELVE = {name: ((), 1, ()) for name in "abcdefghijkl"}


def block_of(program, function="f"):
    return program.functions[function][2]


def smalls(many):
    """Small programs of both kinds, with the names of their functions."""
    for seed in range(many):
        small = (Small, Steep)[seed % 3 == 0](seed)
        yield random.Random(seed), small.program, sorted(small.program.functions)


class Renamed(unittest.TestCase):
    def both(self, statements, changed, names):
        """These statements, of a function f, with other names for locals; and nothing else of it is another."""
        others = {"g": (("a", "b"), 2, (("set", "a", "b"),))}
        classes = {"a": (None, 1, ("a",), {"a": "g"})}
        program = one(*statements, classes=classes, others=others, shared={"s": "a"})
        self.assertEqual(renamed(program, "f", names), one(*changed, classes=classes, others=others, shared={"s": "a"}))

    def test_parameters(self):
        program = one(("return", "a"), parameters=("a", "b"), rank=2)
        self.assertEqual(renamed(program, "f", {"a": "c"}), one(("return", "c"), parameters=("c", "b"), rank=2))
        self.assertEqual(renamed(program, "f", {"b": "c"}), one(("return", "a"), parameters=("a", "c"), rank=2))

    def test_each_kind_of_statement(self):
        statements = lambda a, b: (
            ("set", a, b), ("set", a, ("a",)), ("share", "s", a), ("pay", 1), ("ask", a, ("a", "b")),
            ("raise", a), ("return", b), ("pop", a, b), ("push", b, a, ("b",)), ("get", a, b, "a"),
            ("with", a, b, "a", a), ("send", a, b, "a", (a, "s", ("a",), b)))
        self.both(statements("a", "b"), statements("u", "b"), {"a": "u"})
        self.both(statements("a", "b"), statements("u", "v"), {"a": "u", "b": "v"})
        statements = lambda a, b: (
            ("call", a, "g", (a, b)), ("apply", b, a, (("a",), a)), ("new", a, "a", (b, ("b",))),
            ("keep", b, "g", (a,)), ("call", "c", "f", ()), ("send", b, "c", "b", ()))
        self.both(statements("a", "b"), statements("u", "b"), {"a": "u"})
        self.both(statements("a", "b"), statements("a", "v"), {"b": "v"})

    def test_blocks_and_tests(self):
        statements = lambda a, b: (
            ("if", ("same", a, b), (("set", a, b),), (("set", b, a),)),
            ("if", ("same", a, ("a",)), (), (("loop", ("kind", a, "a"), (("set", b, ("b",)),)),)),
            ("loop", ("not", ("not", ("kind", b, "word"))), (("if", ("not", ("same", ("a",), a)), (), ()),)),
            ("try", (("raise", b),), a, (("raise", a),)),
            ("try", (("try", (), b, (("pay", 0),)),), a, ()),
            ("last", (("set", a, a),), (("return", a),)))
        self.both(statements("a", "b"), statements("u", "b"), {"a": "u"})
        self.both(statements("a", "b"), statements("a", "u"), {"b": "u"})
        self.both(statements("a", "b"), statements("b", "a"), {"a": "b", "b": "a"})

    def test_names_turned_about(self):
        program = one(("set", "a", "b"), ("set", "b", "c"), ("return", "a"), parameters=("b", "c"))
        self.assertEqual(renamed(program, "f", {"a": "b", "b": "c", "c": "a"}),
                         one(("set", "b", "c"), ("set", "c", "a"), ("return", "b"), parameters=("c", "a")))

    def test_nothing_to_do(self):
        for names in ({}, {"a": "a"}, {"q": "r"}, {"w": "w"}, {"f": "x"}):
            self.assertEqual(renamed(WORD, "f", names), WORD)

    def test_keys_that_do_not_stand_there(self):
        program = one(("return", "a"))
        self.assertEqual(renamed(program, "f", {"q": "r", "a": "b"}), one(("return", "b")))
        self.assertEqual(renamed(program, "f", {"q": "a", "a": "q"}), one(("return", "q")))
        self.assertRaises(BadNames, renamed, program, "f", {"q": "a"})

    def test_names_that_stand_there(self):
        for statement in (("set", "v", ("w",)), ("raise", "v"), ("try", (), "v", ()), ("ask", "v", ("a", "b")),
                          ("if", ("kind", "v", "word"), (), ()), ("loop", ("same", ("a",), ("a",)), (("raise", "v"),)),
                          ("last", (), (("call", "a", "f", ("v",)),))):
            self.assertRaises(BadNames, renamed, one(statement), "f", {"a": "v"})
            self.assertEqual(renamed(one(statement), "f", {"v": "v"}), one(statement))
        self.assertRaises(BadNames, renamed, one(parameters=("v",)), "f", {"a": "v"})
        # What is a word, a field, a method, a class or a function is no local.
        others = {"v": ((), 1, ())}
        for statement in (("raise", ("v",)), ("get", "a", "a", "v"), ("send", "a", "a", "v", ()), ("call", "a", "v", ()),
                          ("keep", "a", "v", ()), ("ask", "a", ("v", "w")), ("if", ("kind", "a", "v"), (), ())):
            program = one(statement, classes={"v": (None, 1, ("v",), {})}, others=others)
            self.assertEqual(local_of(renamed(program, "f", {"a": "v"})), local_of(program).replace("a", "v"))

    def test_shared_names(self):
        program = one(("set", "a", "s"), shared={"s": "w", "u": "w"})
        for names in ({"a": "s"}, {"s": "b"}, {"a": "u"}, {"u": "b"}, {"s": "s"}, {"u": "u"}, {"q": "s"},
                      {"a": "s", "s": "a"}, {"a": "u", "u": "a"}):
            self.assertRaises(BadNames, renamed, program, "f", names)
        hiding = one(("return", "s"), parameters=("s",), shared={"s": "w"})
        self.assertRaises(BadNames, renamed, hiding, "f", {"s": "b"})

    def test_bad_names(self):
        wrong = [{"a": "b", "c": "b"}, {"a": "a", "c": "a"}, {"A": "b"}, {"a": "B"}, {"a": ""}, {"": "a"}, {1: "a"},
                 {"a": 1}, {"a": None}, {"a": ["b"]}, {("a",): "b"}, {"a": ("b",)}, [("a", "b")], (("a", "b"),),
                 {"abcdefghi": "a"}, {"a": "abcdefghi"}, {"a": {}}]
        for thing in wrong + [thing for thing in odd_objects() if thing not in ({}, {"a": "b"})]:
            self.assertRaises(BadNames, renamed, WORD, "f", thing)

    def test_functions(self):
        for thing in [*odd_objects(), "g"]:
            with self.assertRaises(NoName) as told:
                renamed(WORD, thing, None)
            self.assertIs(told.exception.name, thing)

    def test_nothing_is_changed(self):
        names, shared, classes, functions = {"a": "b"}, WHOLE.shared, WHOLE.classes, WHOLE.functions
        renamed(WHOLE, "all", {"x": "q"})
        renamed(WORD, "f", names)
        self.assertEqual((names, WHOLE), ({"a": "b"}, Program(shared, classes, functions)))

    def test_there_and_back(self):
        """Over programs of all kinds of statements."""
        changed = 0
        for seed in range(300):
            program = Anything(seed).program
            there = {"a": "q", "b": "a", "q": "b", "me": "r", "r": "me", "zzzzzzzz": "zzzzzzz", "zzzzzzz": "zzzzzzzz"}
            for function in program.functions:
                other = renamed(program, function, there)
                changed += other != program
                self.assertEqual(renamed(other, function, {then: now for now, then in there.items()}), program)
        self.assertGreater(changed, 300)

    def test_all_calls_are_alike(self):
        told = {True: 0, False: 0}
        for chance, program, functions in smalls(150):
            function = chance.choice(functions)
            names = dict(zip(chance.sample(("a", "b", "x"), 2), chance.sample(("a", "b", "x", "q", "za"), 2)))
            try:
                other = renamed(program, function, names)
            except BadNames:
                continue
            told[other == program] += 1
            for name in functions:
                self.assertIsNone(parting(program, name, other, name, [(word,) for word in WORDS]))
        self.assertGreater(told[False], 30)


def local_of(program):
    """The name of the local that the first statement names first, or for which its test asks."""
    statement = block_of(program)[0]
    if statement[0] == "raise":
        return ""
    return statement[1][1] if statement[0] == "if" else statement[1]


class Fixed(unittest.TestCase):
    def test_words(self):
        program = one(("push", "a", "b", "c"), ("return", "a"), parameters=("a", "b", "c"), rank=2)
        for words, parameters, begin in (
                ((), ("a", "b", "c"), ()), (("w",), ("b", "c"), (("set", "a", ("w",)),)),
                (("w", "w"), ("c",), (("set", "a", ("w",)), ("set", "b", ("w",)))),
                (("c", "a", "b"), (), (("set", "a", ("c",)), ("set", "b", ("a",)), ("set", "c", ("b",))))):
            told = fixed(program, "f", words, "new")
            self.assertEqual(told.functions, {**program.functions, "new": (parameters, 2, begin + block_of(program))})
            self.assertEqual((told.shared, told.classes), ({}, {}))

    def test_parameters_that_are_set_again(self):
        program = one(("set", "a", "b"), ("return", "a"), parameters=("a", "b"))
        told = fixed(program, "f", ("v",), "g")
        self.assertEqual(entry_row(told, begin_call(told, "g", ("w",))), {("value", "w", ()): (0, 0)})

    def test_a_parameter_that_hides_a_shared_name(self):
        program = one(("return", "s"), parameters=("s",), shared={"s": "w"})
        told = fixed(program, "f", ("v",), "g")
        self.assertEqual(entry_row(told, begin_call(told, "g", ())), {("value", "v", ("w",)): (0, 0)})

    def test_it_calls_the_function_itself(self):
        """A recursion goes on in the function, not in the further one."""
        program = one(("if", ("same", "n", ("a",)), (("call", "n", "f", (("b",),)),), ()), ("return", "n"),
                      parameters=("n",))
        told = fixed(program, "f", ("a",), "g")
        self.assertEqual(block_of(told, "g")[1:], block_of(program))
        self.assertEqual(entry_row(told, begin_call(told, "g", ())), {("value", "b", ()): (0, 0)})

    def test_errors_in_order(self):
        full = Program({}, {}, {**TWELVE, "a": (("p",), 1, (("pay", 0),) * 12)})
        for thing in [*odd_objects(), "q", "A"]:
            with self.assertRaises(NoName) as told:
                fixed(full, thing, None, None)
            self.assertIs(told.exception.name, thing)
        odd = [thing for thing in odd_objects() if thing != ()]
        for thing in [*odd, ("a", "b"), ["a"], "a", ("A",), (("a",),), (1,), (None,), {"a": "b"}]:
            self.assertRaises(BadWords, fixed, full, "a", thing, None)
        self.assertRaises(BadWords, fixed, full, "b", ("a",), "b")
        for thing in [*odd_objects(), "A", "abcdefghi", *TWELVE]:
            self.assertRaises(BadName, fixed, full, "a", ("w",), thing)
        with self.assertRaises(BadProgram) as told:
            fixed(full, "a", ("w",), "new")
        self.assertEqual(told.exception.part, "functions")

    def test_blocks_of_12_statements(self):
        program = one(*(("pay", 0),) * 11, parameters=("a", "b"))
        self.assertEqual(len(block_of(fixed(program, "f", ("v",), "g"), "g")), 12)
        with self.assertRaises(BadProgram) as told:
            fixed(program, "f", ("v", "w"), "g")
        self.assertEqual(told.exception.part, "block g")

    def test_12_functions(self):
        eleven = Program({}, {}, dict(list(TWELVE.items())[:11]))
        self.assertEqual(len(fixed(eleven, "a", (), "l").functions), 12)

    def test_all_calls_are_alike(self):
        for chance, program, functions in smalls(150):
            function = chance.choice(functions)
            self.assertEqual(len(program.functions[function][0]), 1)
            for word in WORDS:
                told = fixed(program, function, (word,), "new")
                self.assertEqual(entry_row(program, begin_call(program, function, (word,))),
                                 entry_row(told, begin_call(told, "new", ())))
            told = fixed(program, function, (), "new")
            self.assertIsNone(parting(program, function, told, "new", [(word,) for word in WORDS]))


class Caught(unittest.TestCase):
    def test_the_block(self):
        program = one(("return", "a"), parameters=("a", "b"), rank=2)
        told = caught(program, "f", "g")
        self.assertEqual(told.functions, {**program.functions, "g": (("a", "b"), 2, (
            ("try", (("call", "z", "f", ("a", "b")), ("return", "z")), "z",
             (("push", "z", ("none",), "z"), ("return", "z"))),))})
        self.assertEqual(caught(one(), "f", "g").functions["g"][2][0][1][0], ("call", "z", "f", ()))

    def test_names_that_are_taken(self):
        names = ["z" * many for many in range(1, 9)]
        for many in range(8):
            for parameters, shared in ((names[:many][:4], names[:many][4:]), (names[:many][4:], names[:many][:4])):
                program = one(parameters=tuple(parameters), shared={name: "w" for name in shared})
                block = block_of(caught(program, "f", "g"), "g")
                self.assertEqual(block, (
                    ("try", (("call", names[many], "f", tuple(parameters)), ("return", names[many])), names[many],
                     (("push", names[many], ("none",), names[many]), ("return", names[many]))),))
        # Those of other functions, of locals and of words take none.
        program = one(("set", "z", ("zz",)), others={"z": (("z",), 1, ()), "zz": ((), 1, ())}, classes={
            "z": (None, 1, ("z",), {})})
        self.assertEqual(block_of(caught(program, "f", "g"), "g")[0][2], "z")
        self.assertEqual(block_of(caught(one(parameters=("zz",)), "f", "g"), "g")[0][2], "z")
        self.assertEqual(block_of(caught(one(parameters=("z", "zzz")), "f", "g"), "g")[0][2], "zz")

    def test_all_names_are_taken(self):
        program = one(parameters=("z", "zzz", "zzzzz", "zzzzzzz"),
                      shared={"zz": "w", "zzzz": "w", "zzzzzz": "w", "zzzzzzzz": "w"})
        with self.assertRaises(BadProgram) as told:
            caught(program, "f", "g")
        self.assertEqual(told.exception.part, "block g")

    def test_an_error_and_a_value_fall_together(self):
        program = one(ASK, ("if", SAME, (("pay", 3), ("raise", ("oh",))), ()), ("push", "y", ("none",), ("oh",)),
                      ("ask", "x", ("a", "b")), ("if", SAME, (("pay", 1),), (("pay", 7),)), ("return", "y"))
        row = ("value", ("row", ("oh",)), ())
        self.assertEqual(entry_row(program, begin_call(program, "f", ())), {
            ("error", "oh", ()): (3, 3), row: (1, 7)})
        told = caught(program, "f", "g")
        self.assertEqual(entry_row(told, begin_call(told, "g", ())), {row: (1, 7)})
        # None is the greatest.
        loop = ("loop", SAME, (("pay", 1), ASK))
        for raised, returned in ((loop, ("pay", 2)), (("pay", 2), loop)):
            program = one(ASK, ("if", SAME, (ASK, raised, ("raise", ("oh",))), (ASK, returned)),
                          ("push", "y", ("none",), ("oh",)), ("return", "y"))
            told = caught(program, "f", "g")
            self.assertEqual(entry_row(told, begin_call(told, "g", ())), {row: (0, None)})

    def test_ends_of_all_calls(self):
        errors = 0
        for chance, program, functions in smalls(150):
            function = chance.choice(functions)
            told = caught(program, function, "new")
            for word in WORDS:
                expected = {}
                for (kind, worth, shared), prices in entry_row(program, begin_call(program, function, (word,))).items():
                    errors += kind == "error"
                    end = ("value", ("row", (worth,)) if kind == "error" else worth, shared)
                    self.assertNotIn(end, expected)
                    expected[end] = prices
                self.assertEqual(entry_row(told, begin_call(told, "new", (word,))), expected)
        self.assertGreater(errors, 40)

    def test_errors_in_order(self):
        full = Program({}, {}, TWELVE)
        for thing in [*odd_objects(), "q", "A"]:
            with self.assertRaises(NoName) as told:
                caught(full, thing, None)
            self.assertIs(told.exception.name, thing)
        for thing in [*odd_objects(), "A", "abcdefghi", *TWELVE]:
            self.assertRaises(BadName, caught, full, "a", thing)
        with self.assertRaises(BadProgram) as told:
            caught(full, "a", "new")
        self.assertEqual(told.exception.part, "functions")


class Only(unittest.TestCase):
    def test_what_is_kept(self):
        self.assertEqual(only(WHOLE, "look"), Program({}, {}, {"look": WHOLE.functions["look"]}))
        self.assertEqual(only(WHOLE, "swap"), Program({}, {}, {"swap": WHOLE.functions["swap"]}))
        self.assertEqual(only(WHOLE, "all"), WHOLE)
        self.assertEqual(only(COIN, "f"), COIN)
        self.assertEqual(only(RICH, "g"), Program({}, {}, {"g": RICH.functions["g"]}))

    def test_a_class_brings_its_parent_and_methods(self):
        for statement in (("new", "x", "pair", ()), ("if", ("not", ("kind", "x", "pair")), (), ())):
            functions = {**RICH.functions, "f": ((), 1, (statement,))}
            told = only(Program(RICH.shared, RICH.classes, functions), "f")
            self.assertEqual(told, Program({}, {name: RICH.classes[name] for name in ("cell", "pair")},
                                           {name: functions[name] for name in ("f", "look", "swap")}))

    def test_shared_names(self):
        shared = {"s": "a", "u": "b", "v": "c", "w": "d"}
        for statements, names in (((("set", "x", "s"),), "s"), ((("share", "v", ("w",)),), "v"), ((("set", "u", "x"),), "u"),
                                  ((("set", "x", "s"), ("share", "v", ("w",))), "sv"), ((("raise", ("s",)),), "")):
            told = only(one(*statements, shared=shared, parameters=("w",)), "f")
            self.assertEqual(told.shared, {name: shared[name] for name in names})

    def test_parts_of_it_are_those_that_are_used(self):
        for seed in range(300):
            program = Anything(seed).program
            for function in program.functions:
                told = only(program, function)
                functions, classes, shared = uses(program, function)
                self.assertEqual(told.functions, {name: program.functions[name] for name in {function, *functions}})
                self.assertEqual(told.classes, {name: program.classes[name] for name in classes})
                self.assertEqual(told.shared, {name: program.shared[name] for name in shared})
                # Of it everything is used.
                self.assertEqual(uses(told, function), uses(program, function))
                self.assertEqual(only(told, function), told)

    def test_all_calls_are_alike(self):
        left = 0
        for chance, program, functions in smalls(150):
            function = chance.choice(functions)
            told = only(program, function)
            for word in WORDS:
                rows = [entry_row(one_program, begin_call(one_program, function, (word,))) for one_program in (program, told)]
                if not told.shared:
                    left += 1
                    rows[0] = {(kind, worth, ()): prices for (kind, worth, _), prices in rows[0].items()}
                self.assertEqual(*rows)
        self.assertGreater(left, 50)

    def test_functions(self):
        for thing in [*odd_objects(), "q"]:
            with self.assertRaises(NoName) as told:
                only(WHOLE, thing)
            self.assertIs(told.exception.name, thing)


if __name__ == "__main__":
    unittest.main()
