"""Where the calls of two functions are not alike (9.1)."""

import unittest

from everyend.alike import parting
from everyend.errors import BadCall, BadShared, NoName, TooMany
from everyend.programs import Program
from tests.samples import COIN, RICH, WORD, odd_objects, one
from tests.test_exploring import crowd

ASK = ("ask", "x", ("a", "b"))
SAME = ("same", "x", ("a",))


def returning(*words):
    """A program whose f, of one parameter, returns the word that stands behind its argument, or the argument."""
    turns = tuple(("if", ("same", "n", (now,)), (("return", (then,)),), ()) for now, then in zip(words, words[1:]))
    return one(*turns, ("return", "n"), parameters=("n",))


class Parting(unittest.TestCase):
    def parts(self, one_program, other_program, rows=((),)):
        """The tuple, the same from both sides."""
        told = parting(one_program, "f", other_program, "f", rows)
        self.assertEqual(parting(other_program, "f", one_program, "f", rows), told)
        self.assertIsNone(parting(one_program, "f", one_program, "f", rows))
        return told

    def test_alike(self):
        self.assertIsNone(self.parts(COIN, COIN))
        self.assertIsNone(self.parts(one(("pay", 2), ("pay", 1)), one(("pay", 3), ("set", "x", ("a",)))))
        both = one(("if", ("same", "n", "n"), (("raise", "n"),), ()), parameters=("n",))
        self.assertIsNone(self.parts(WORD, both, [("a",), ("b",), (("row", ("a",)),)]))

    def test_of_one_program(self):
        program = one(("return", ("a",)), others={"g": ((), 1, (("return", ("a",)),)), "h": ((), 1, (("pay", 0),))})
        self.assertIsNone(parting(program, "f", program, "g", [()]))
        self.assertEqual(parting(program, "f", program, "h", [()]), ())

    def test_the_first_tuple(self):
        one_program, other = returning(*"abc"), returning(*"abd")
        rows = [("a",), ("x",), ("b",), ("c",), ("a",)]
        self.assertEqual(self.parts(one_program, other, rows), ("b",))
        self.assertEqual(self.parts(one_program, other, tuple(rows)), ("b",))
        self.assertIsNone(self.parts(one_program, other, rows[:2]))

    def test_what_stands_behind_is_not_looked_at(self):
        one_program, other = returning(*"abc"), returning(*"abd")
        for wrong in [*odd_objects(), ("a", "b"), ()]:
            self.assertEqual(parting(one_program, "f", other, "f", [("b",), wrong]), ("b",))
            self.assertRaises(BadCall, parting, one_program, "f", other, "f", [("a",), wrong, ("b",)])

    def test_no_tuples(self):
        self.assertIsNone(self.parts(WORD, COIN, []))
        self.assertIsNone(self.parts(WORD, COIN, ()))

    def test_rows_are_not_changed(self):
        rows = [("a",), ("b",)]
        parting(returning(*"abc"), "f", returning(*"abd"), "f", rows)
        self.assertEqual(rows, [("a",), ("b",)])

    def test_one_end_more(self):
        two = one(ASK, ("return", "x"))
        self.assertEqual(self.parts(two, one(ASK, ("if", SAME, (), (("return", ("a",)),)), ("return", "x"))), ())
        self.assertEqual(self.parts(two, one(ASK, ("if", SAME, (), (("raise", "x"),)), ("return", "x"))), ())
        self.assertEqual(self.parts(two, one(("loop", ("same", ("a",), ("a",)), ()))), ())

    def test_one_least_price(self):
        dear = (ASK, ("if", SAME, (("pay", 3),), (("pay", 5),)))
        self.assertEqual(self.parts(one(*dear), one(ASK, ("if", SAME, (("pay", 4),), (("pay", 5),)))), ())
        self.assertIsNone(self.parts(one(*dear), one(ASK, ("if", SAME, (("pay", 5),), (("pay", 3),)))))
        self.assertIsNone(self.parts(one(*dear), one(*dear, ("if", SAME, (), (("pay", 0),)))))

    def test_one_greatest_price(self):
        dear = (ASK, ("if", SAME, (("pay", 3),), (("pay", 5),)))
        self.assertEqual(self.parts(one(*dear), one(ASK, ("if", SAME, (("pay", 3),), (("pay", 6),)))), ())
        # A number and None.
        loop = (ASK, ("loop", SAME, (("pay", 1), ASK)))
        self.assertEqual(self.parts(one(*loop), one(ASK, ("if", SAME, (("pay", 9),), ()))), ())
        self.assertIsNone(self.parts(one(*loop), one(ASK, ("loop", SAME, (("pay", 9), ASK)))))
        # Whether a run goes on for ever is of no matter.
        self.assertIsNone(self.parts(one(ASK, ("loop", SAME, (ASK,))), one()))

    def test_one_shared_value(self):
        shared = {"s": "a", "u": "a"}
        self.assertEqual(self.parts(one(shared=shared), one(("share", "u", ("b",)), shared=shared)), ())
        self.assertEqual(self.parts(one(("share", "s", ("b",)), shared=shared),
                                    one(("share", "u", ("b",)), shared=shared)), ())
        self.assertIsNone(self.parts(one(shared=shared), one(("share", "u", ("a",)), shared=shared)))

    def test_shared_names(self):
        """The words may differ, the names may not."""
        a, b = one(("return", "s"), shared={"s": "a"}), one(("return", "s"), shared={"s": "b"})
        self.assertEqual(self.parts(a, b), ())
        self.assertIsNone(self.parts(a, one(("share", "s", ("a",)), ("return", "s"), shared={"s": "b"})))
        one_way, other_way = one(shared={"s": "a", "u": "b"}), one(shared={"u": "b", "s": "a"})
        self.assertIsNone(self.parts(one_way, other_way))
        for shared in ({}, {"s": "a", "u": "b"}, {"u": "a"}):
            for first, rows in (("f", [()]), (None, None), ("f", [(1,)])):
                self.assertRaises(BadShared, parting, a, first, one(shared=shared), first, rows)
                self.assertRaises(BadShared, parting, one(shared=shared), first, a, first, rows)

    def test_functions(self):
        for thing in [*odd_objects(), "h", "g "]:
            for program, first, other, second in ((COIN, thing, WORD, "f"), (COIN, thing, WORD, None),
                                                  (COIN, "f", WORD, thing)):
                with self.assertRaises(NoName) as caught:
                    parting(program, first, other, second, [1])
                self.assertIs(caught.exception.name, thing)
        # Each is one of its own program.
        more = one(others={"g": ((), 1, ())})
        self.assertIsNone(parting(more, "g", one(), "f", [()]))
        self.assertRaises(NoName, parting, one(), "g", more, "g", [()])
        self.assertRaises(NoName, parting, more, "g", one(), "g", [()])

    def test_calls(self):
        for thing in [*odd_objects(), (), ("a", "b"), ["a"], ("A",), (("thing", "cell", ("a",)),)]:
            self.assertRaises(BadCall, parting, WORD, "f", WORD, "f", [("a",), thing])
        # A value of the first program alone, or of the second one alone.
        cell = one(("raise", "a"), parameters=("a",), classes={"cell": (None, 1, ("left",), {})})
        for rows in ([(("thing", "cell", ("a",)),)], [("b",), (("thing", "cell", ("a",)),)]):
            self.assertRaises(BadCall, parting, WORD, "f", cell, "f", rows)
            self.assertRaises(BadCall, parting, cell, "f", WORD, "f", rows)
            self.assertIsNone(parting(cell, "f", cell, "f", rows))
        # So many arguments as each of both has parameters.
        two = one(parameters=("a", "b"))
        for rows in ([("a",)], [("a", "b")]):
            self.assertRaises(BadCall, parting, WORD, "f", two, "f", rows)

    def test_errors_of_calls_in_order(self):
        """For each tuple BadCall and TooMany of the first function, then of the second one."""
        def crowded(parameters):
            return Program({}, {}, {"f": (parameters, 1, crowd(9).functions["f"][2])})
        self.assertRaises(TooMany, parting, crowded(()), "f", one(parameters=("a",)), "f", [()])
        self.assertRaises(BadCall, parting, one(parameters=("a",)), "f", crowded(()), "f", [()])
        self.assertRaises(BadCall, parting, one(), "f", crowded(("a",)), "f", [()])
        with self.assertRaises(TooMany) as caught:
            parting(one(), "f", crowded(()), "f", [()])
        self.assertEqual(caught.exception.most, 3000)
        self.assertIsNone(parting(crowd(8), "f", one(), "f", [()]))
        # The first tuple that is looked at tells.
        self.assertRaises(TooMany, parting, crowded(()), "f", crowded(()), "f", [(), 1])
        self.assertRaises(BadCall, parting, crowded(()), "f", crowded(()), "f", [1, ()])

    def test_rich_values(self):
        cell = ("thing", "pair", ("a", "b"))
        self.assertIsNone(parting(RICH, "look", RICH, "look", [(cell,), (("kept", "f", ("a",)),)]))
        other = Program(RICH.shared, RICH.classes, {**RICH.functions, "look": (("me",), 1, (("return", ("a",)),))})
        self.assertIsNone(parting(RICH, "look", other, "look", [(cell,)]))
        wrong = ("thing", "pair", ("b", "b"))
        self.assertEqual(parting(RICH, "look", other, "look", [(cell,), (wrong,), ("a",)]), (wrong,))



if __name__ == "__main__":
    unittest.main()
