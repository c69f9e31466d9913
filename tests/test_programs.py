"""Programs, their shared names, classes and functions (2.1, 2.3, 0.4)."""

import unittest

from everyend.errors import BadProgram, NoName
from everyend.programs import Program, fields_of, method_of
from tests.samples import COIN, RICH, odd_objects

F = {"f": ((), 1, ())}
G = {"f": ((), 1, ()), "g": (("a",), 1, ())}


def names(many, first=""):
    return [first + letter for letter in "abcdefghijklmnop"[:many]]


def part_of(shared, classes, functions):
    """The part that BadProgram tells, None if it is not raised."""
    try:
        Program(shared, classes, functions)
    except BadProgram as error:
        return error.part
    return None


class Shared(unittest.TestCase):
    def test_right(self):
        for shared in ({}, {"a": "b"}, {"abcdefgh": "abcdefgh"}, dict.fromkeys(names(4), "x"),
                       {"word": "row", "f": "f"}):
            self.assertIsNone(part_of(shared, {}, F))

    def test_wrong(self):
        wrong = [dict.fromkeys(names(5), "x"), {"a": "B"}, {"a": ("b",)}, {"a": ("row", ())}, {"a": None},
                 {"A": "b"}, {"abcdefghi": "b"}, {"a": "abcdefghi"}, {"": "b"}, {1: "b"}, {None: "b"},
                 {("a",): "b"}, {True: "a"}, [("a", "b")], (("a", "b"),), {"a": ["b"]}, {"a": {}}, {b"a": "b"}]
        for shared in wrong + [thing for thing in odd_objects() if thing not in ({}, {"a": "b"})]:
            self.assertEqual(part_of(shared, {}, F), "shared")


class Classes(unittest.TestCase):
    def wrong(self, classes):
        self.assertEqual(part_of({}, classes, G), "classes", classes)

    def right(self, classes):
        self.assertIsNone(part_of({}, classes, G), classes)

    def test_right(self):
        self.right({"c": (None, 1, (), {})})
        self.right({"thing": (None, 2, ("x", "y", "z"), {"m": "g", "n": "g"})})
        self.right({"c": ("d", 1, (), {}), "d": ("e", 2, (), {}), "e": (None, 1, ("x",), {})})
        self.right({name: (None, 1, (), {}) for name in names(6)})
        self.right({"c": (None, 1, ("x", "y"), {}), "d": ("c", 1, ("z", "w"), {})})

    def test_number_and_names(self):
        self.wrong({name: (None, 1, (), {}) for name in names(7)})
        for name in ("word", "row", "kept", "C", "", "abcdefghi", 1, None, ("c",)):
            self.wrong({name: (None, 1, (), {})})
        for thing in odd_objects():
            if thing != {}:
                self.wrong(thing)

    def test_form(self):
        right = [None, 1, ("x",), {"m": "g"}]
        for told in (right, right[:3], tuple(right[:3]), (*right, ()), "cell", None):
            self.wrong({"c": told})
        for at, thing in [(0, "d"), (0, "C"), (0, ()), (0, []), (0, RICH), (0, False), (1, 0), (1, 3), (1, True),
                          (1, "1"), (1, None), (2, ["x"]), (2, "x"), (2, ("x", "x")), (2, ("X",)), (2, (1,)),
                          (2, ("x", "y", "z", "w")), (2, None), (3, None), (3, [("m", "g")]), (3, {"M": "g"}),
                          (3, {"m": "G"}), (3, {"m": None}), (3, {"m": ["g"]}), (3, {1: "g"}), (3, ())]:
            self.wrong({"c": tuple(right[:at] + [thing] + right[at + 1:])})
        for thing in odd_objects():
            self.wrong({"c": thing})
            self.wrong({"c": (thing if thing is not None else 0, 1, (), {})})
            if thing != () and type(thing) is not int:
                self.wrong({"c": (None, thing, (), {})})
                self.wrong({"c": (None, 1, thing, {})})
            if thing not in ({}, {"a": "b"}):
                self.wrong({"c": (None, 1, (), thing)})

    def test_fields_of_the_parent(self):
        self.wrong({"c": (None, 1, ("x", "y"), {}), "d": ("c", 1, ("y",), {})})
        self.wrong({"c": (None, 1, ("x", "y"), {}), "d": ("c", 1, ("z", "w", "v"), {})})
        self.wrong({"c": (None, 1, ("x",), {}), "d": ("c", 1, ("y",), {}), "e": ("d", 1, ("x",), {})})
        self.wrong({"c": (None, 1, ("x", "y"), {}), "d": ("c", 1, ("z", "w"), {}), "e": ("d", 1, ("v",), {})})

    def test_own_ancestors(self):
        self.wrong({"c": ("c", 1, (), {})})
        self.wrong({"c": ("d", 1, (), {}), "d": ("c", 1, (), {})})
        self.wrong({"c": ("d", 1, (), {}), "d": ("e", 1, (), {}), "e": ("d", 1, (), {})})

    def test_methods(self):
        self.assertEqual(part_of({}, {"c": (None, 1, (), {"m": "h"})}, G), "methods")
        self.assertEqual(part_of({}, {"c": (None, 1, (), {"m": "f"})}, G), "methods")
        self.assertEqual(part_of({}, {"c": (None, 1, (), {"m": "c"})}, G), "methods")


class Functions(unittest.TestCase):
    def wrong(self, functions):
        self.assertEqual(part_of({}, {}, functions), "functions", functions)

    def test_number_and_names(self):
        self.wrong({})
        self.assertIsNone(part_of({}, {}, {name: ((), 2, ()) for name in names(12)}))
        self.wrong({name: ((), 1, ()) for name in names(13)})
        for name in ("F", "", "abcdefghi", 1, None, ("f",), True):
            self.wrong({name: ((), 1, ())})
        for thing in odd_objects():
            self.wrong(thing)

    def test_form(self):
        self.assertIsNone(part_of({}, {}, {"f": (("a", "b", "c", "d"), 2, ())}))
        for told in (((), 1), ((), 1, (), ()), [(), 1, ()], "abc", (["a"], 1, ()), ("a", 1, ()),
                     (("a", "a"), 1, ()), (("A",), 1, ()), ((1,), 1, ()), (("a", "b", "c", "d", "e"), 1, ()),
                     ((), 0, ()), ((), 3, ()), ((), True, ()), ((), None, ()), ((), "1", ()), (None, 1, ())):
            self.wrong({"f": told})
        for thing in odd_objects():
            self.wrong({"f": thing})
            if thing != ():
                self.wrong({"f": (thing, 1, ())})
            if thing != 1 or thing is True:
                self.wrong({"f": ((), thing, ())})


class Order(unittest.TestCase):
    def test_the_first_part_is_told(self):
        bad_block = {"f": ((), 1, ("no",)), "b": ((), 1, None), "c": ((), 1, ()), "d": ((), 1, [])}
        bad_method = {"c": (None, 1, (), {"m": "f"})}
        self.assertEqual(part_of(None, None, None), "shared")
        self.assertEqual(part_of({}, None, None), "classes")
        self.assertEqual(part_of({}, bad_method, None), "functions")
        self.assertEqual(part_of({}, bad_method, bad_block), "methods")
        self.assertEqual(part_of({}, {}, bad_block), "block b")
        self.assertEqual(part_of({}, {}, {"z": ((), 1, ("no",)), "aa": ((), 1, 0)}), "block aa")
        self.assertEqual(part_of({}, {}, {"c": ((), 1, ()), "d": ((), 1, [])}), "block d")

    def test_lasts_come_behind_the_blocks(self):
        lasts = (("if", ("same", "a", "a"), (("last", (), ()),) * 12, (("last", (), ()),) * 12),
                 ("if", ("same", "a", "a"), (("last", (), ()),) * 3, ()))
        self.assertEqual(part_of({}, {}, {"a": ((), 1, lasts)}), "last")
        self.assertEqual(part_of({}, {}, {"a": ((), 1, lasts), "b": ((), 1, None)}), "block b")

    def test_keeps_its_part(self):
        with self.assertRaises(BadProgram) as caught:
            Program({}, {}, {"f": ((), 1, (("no",),))})
        self.assertEqual(caught.exception.part, "block f")


class Kept(unittest.TestCase):
    def test_told_dicts(self):
        shared, classes, functions = {"a": "b"}, {"c": (None, 1, ("x",), {"m": "g"})}, dict(G)
        program = Program(shared, classes, functions)
        self.assertEqual(program.shared, {"a": "b"})
        self.assertEqual(program.classes, {"c": (None, 1, ("x",), {"m": "g"})})
        self.assertEqual(program.functions, G)
        for told, other in [(program.shared, program.shared), (program.classes, program.classes),
                            (program.functions, program.functions),
                            (program.classes["c"][3], program.classes["c"][3])]:
            self.assertIsNot(told, other)

    def test_changes_of_what_was_passed(self):
        shared, methods, functions = {"a": "b"}, {"m": "g"}, dict(G)
        classes = {"c": (None, 1, ("x",), methods)}
        program = Program(shared, classes, functions)
        twin = Program(program.shared, program.classes, program.functions)
        shared["a"] = "x"
        methods["n"] = "h"
        classes["d"] = None
        functions.clear()
        self.assertEqual(program, twin)
        self.assertEqual(program.classes["c"][3], {"m": "g"})
        self.assertEqual((shared, methods), ({"a": "x"}, {"m": "g", "n": "h"}))

    def test_changes_of_what_was_told(self):
        program = Program({"a": "b"}, {"c": (None, 1, ("x",), {"m": "g"})}, G)
        program.shared["a"] = "x"
        program.classes["c"][3]["m"] = "f"
        program.classes.clear()
        program.functions.clear()
        self.assertEqual(program, Program({"a": "b"}, {"c": (None, 1, ("x",), {"m": "g"})}, G))
        self.assertEqual(method_of(program, "c", "m"), "g")

    def test_equal(self):
        shared, classes, functions = RICH.shared, RICH.classes, RICH.functions
        same = Program(dict(reversed(list(shared.items()))), dict(reversed(list(classes.items()))),
                       dict(reversed(list(functions.items()))))
        self.assertTrue(RICH == same)
        self.assertFalse(RICH != same)
        others = [Program({**shared, "low": "x"}, classes, functions),
                  Program({**shared, "new": "x"}, classes, functions),
                  Program(shared, {**classes, "void": (None, 2, (), {})}, functions),
                  Program(shared, {**classes, "void": (None, 1, (), {"m": "f"})}, functions),
                  Program(shared, classes, {**functions, "g": ((), 1, ())}),
                  Program(shared, classes, {**functions, "new": ((), 1, ())})]
        for other in others:
            self.assertFalse(RICH == other)
            self.assertTrue(RICH != other)
        for thing in odd_objects():
            if not isinstance(thing, Program):
                self.assertFalse(RICH == thing)


class Families(unittest.TestCase):
    def setUp(self):
        functions = {name: (("me",), 1, ()) for name in "fgh"}
        self.program = Program({}, {
            "old": (None, 1, ("z", "a"), {"m": "f", "n": "f"}),
            "mid": ("old", 2, ("m",), {"n": "g"}),
            "new": ("mid", 1, ("b",), {"o": "h"}),
            "lone": (None, 1, (), {})}, functions)

    def test_fields(self):
        self.assertEqual(fields_of(self.program, "old"), ("z", "a"))
        self.assertEqual(fields_of(self.program, "mid"), ("z", "a", "m"))
        self.assertEqual(fields_of(self.program, "new"), ("z", "a", "m", "b"))
        self.assertEqual(fields_of(self.program, "lone"), ())

    def test_methods(self):
        told = {name: [method_of(self.program, name, method) for method in "mnop"]
                for name in ("old", "mid", "new", "lone")}
        self.assertEqual(told, {"old": ["f", "f", None, None], "mid": ["f", "g", None, None],
                                "new": ["f", "g", "h", None], "lone": [None] * 4})
        for thing in odd_objects():
            self.assertIsNone(method_of(self.program, "old", thing))

    def test_no_name(self):
        for thing in [*odd_objects(), "f", "older", "word"]:
            for call in (lambda: fields_of(self.program, thing), lambda: method_of(self.program, thing, "m")):
                with self.assertRaises(NoName) as caught:
                    call()
                self.assertIs(caught.exception.name, thing)

    def test_no_classes(self):
        with self.assertRaises(NoName):
            fields_of(COIN, "c")


if __name__ == "__main__":
    unittest.main()
