"""Values, levels and texts (1.1 to 1.3)."""

import unittest

from everyend.errors import BadValue
from everyend.values import is_value, level, value_text
from tests.samples import RICH, WORD, odd_objects

CELL = ("thing", "cell", ("a",))
PAIR = ("thing", "pair", ("a", "b"))
VOID = ("thing", "void", ())
KEPT = ("kept", "f", ("a",))

LEVELS = [
    ("a", 0), ("abcdefgh", 0), ("none", 0), ("row", 0), ("thing", 0),
    (("row", ()), 1), (("row", ("a",)), 1), (("row", ("a", "a", "row")), 1),
    (CELL, 1), (PAIR, 1), (VOID, 1),
    (KEPT, 1), (("kept", "f", ()), 1), (("kept", "f", ("a", "b")), 1), (("kept", "look", ()), 1),
    (("thing", "box", ("a",)), 2), (("thing", "box", (("row", ("a",)),)), 2),
    (("thing", "box", (PAIR,)), 2), (("thing", "box", (KEPT,)), 2),
    (("kept", "g", ()), 2), (("kept", "h", ("a", ("row", ()), CELL)), 2), (("kept", "h", (KEPT,)), 2),
]

# Of the form of a value, but no value of RICH.
FORM_ALONE = [
    ("thing", "none", ()), ("thing", "f", ("a", "b")), ("thing", "word", ()), ("kept", "cell", ("a",)),
    ("kept", "no", ()), ("thing", "cell", ()), ("thing", "cell", ("a", "b")), ("thing", "pair", ("a",)),
    ("thing", "void", ("a",)), ("kept", "g", ("a",)), ("kept", "f", ("a", "b", "c")),
    # Held values of no lower level.
    ("thing", "cell", (("row", ()),)), ("thing", "cell", (CELL,)), ("thing", "pair", ("a", KEPT)),
    ("thing", "box", (("thing", "box", ("a",)),)), ("thing", "box", (("kept", "g", ()),)),
    ("kept", "f", (("row", ()),)), ("kept", "f", ("a", VOID)), ("kept", "h", (("kept", "g", ()),)),
    ("kept", "h", ("a", ("thing", "box", ("a",)))),
    ("thing", "box", (("thing", "cell", (("row", ()),)),)),
]

NO_FORM = [
    ("row",), ("thing",), ("kept",),
    ("row", ["a"]), ("row", ("a", "b", "c", "d")), ("row", ("A",)), ("row", (("a",),)), ("row", "abc"),
    ("row", (None,)), ("row", ("a",), ()), ["row", ("a",)], ("rows", ("a",)), ("thing", "cell"),
    ("thing", "cell", ["a"]), ("thing", "cell", "a"), ["thing", "cell", ("a",)], ("thing", "Cell", ("a",)),
    ("thing", None, ("a",)), ("thing", ["cell"], ("a",)), ("thing", RICH, ("a",)), ("thing", "cell", (0,)),
    ("thing", "cell", (RICH,)), ("thing", "cell", ("a",), ()), ("kept", "f", ["a"]), ("kept", "f", "a"),
    ("kept", {}, ("a",)), ("kept", "f", (True,)), ("held", "f", ("a",)), (RICH, "f", ("a",)), RICH,
    ("thing", "box", (("row", ["a"]),)),
]


class Values(unittest.TestCase):
    def test_values_and_levels(self):
        for value, told in LEVELS:
            self.assertIs(is_value(RICH, value), True, value)
            self.assertEqual(level(RICH, value), told, value)

    def test_what_is_no_value(self):
        for thing in [*FORM_ALONE, *NO_FORM, *odd_objects()]:
            self.assertIs(is_value(RICH, thing), False)
            with self.assertRaises(BadValue):
                level(RICH, thing)

    def test_of_which_program(self):
        self.assertIs(is_value(WORD, CELL), False)
        self.assertIs(is_value(WORD, KEPT), True)
        self.assertEqual(level(WORD, KEPT), 1)

    def test_level_is_an_integer(self):
        self.assertTrue(type(level(RICH, "a")) is int)


class Texts(unittest.TestCase):
    def test_e01(self):
        self.assertEqual(value_text(("row", ("a", "b"))), "[a b]")

    def test_each_kind(self):
        for value, text in [
                ("abc", "abc"), (("row", ()), "[]"), (("row", ("a",)), "[a]"),
                (("row", ("a", "b", "c")), "[a b c]"), (("thing", "c", ()), "c()"),
                (("thing", "c", ("a",)), "c(a)"), (("thing", "c", ("a", ("row", ("b", "c")))), "c(a, [b c])"),
                (("kept", "f", ()), "f<>"), (("kept", "f", ("a", "b")), "f<a, b>"),
                (("kept", "f", (("thing", "c", (("kept", "g", ("a",)), "b")), "c")), "f<c(g<a>, b), c>")]:
            self.assertEqual(value_text(value), text)

    def test_of_any_program(self):
        many = tuple("abcdefghij")
        self.assertEqual(value_text(("thing", "word", many)), "word(a, b, c, d, e, f, g, h, i, j)")
        deep = "a"
        for _ in range(29):
            deep = ("thing", "c", (deep,))
        self.assertEqual(value_text(deep), "c(" * 29 + "a" + ")" * 29)
        for value in FORM_ALONE:
            self.assertIsInstance(value_text(value), str)

    def test_what_has_not_the_form(self):
        deep_values = [thing for thing in odd_objects()
                       if isinstance(thing, tuple) and thing[:1] in (("thing",), ("kept",)) and len(thing) == 3]
        self.assertEqual(len(deep_values), 2)
        for thing in [*NO_FORM, *odd_objects()]:
            if thing not in deep_values:
                with self.assertRaises(BadValue):
                    value_text(thing)


if __name__ == "__main__":
    unittest.main()
