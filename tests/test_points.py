"""Places, points, calls and ends (3.1, 3.2)."""

import unittest

from everyend.errors import BadCall, NoName
from everyend.following import following
from everyend.points import begin_call, end_order, entry, is_call, is_end, is_point
from tests.samples import COIN, RICH, WORD, odd_objects, one

YES = ("same", ("a",), ("a",))
NO = ("not", YES)
PAY = ("pay", 1)
SHARED = ("lo", "hi")
CELL = ("thing", "cell", ("a",))
BOX = ("thing", "box", (CELL,))
HELD = (("a", "b"), ("b", ("row", ("a",))), ("c", BOX), ("z", ("kept", "g", ())))


def leads(program, place):
    """The places to which the frame goes on from a place."""
    told = following(program, ("f", place, (("x", "a"),), ()))
    return [point[1] for point in told[2]] if told[0] == "on" else told


class Places(unittest.TestCase):
    def test_the_end_place(self):
        self.assertIs(is_point(COIN, ("f", 5, (), ())), True)
        self.assertIs(is_point(COIN, ("f", 6, (), ())), False)
        self.assertEqual(following(COIN, ("f", 5, (), ())), ("end", ("value", "none", ())))
        empty = one()
        self.assertIs(is_point(empty, ("f", 0, (), ())), True)
        self.assertIs(is_point(empty, ("f", 1, (), ())), False)
        self.assertEqual(following(empty, ("f", 0, (), ())), ("end", ("value", "none", ())))

    def leads_all(self, *statements):
        """For each place the places to which it leads."""
        program, told, place = one(*statements), [], 0
        while is_point(program, ("f", place + 1, (), ())):
            told.append(leads(program, place))
            place += 1
        return told

    def test_in_a_row(self):
        self.assertEqual(self.leads_all(PAY, PAY, PAY), [[1], [2], [3]])

    def test_if(self):
        for test, first in ((YES, 1), (NO, 3)):
            statement = ("if", test, (PAY, PAY), (PAY, PAY))
            self.assertEqual(self.leads_all(statement, PAY), [[first], [2], [5], [4], [5], [6]])
            self.assertEqual(self.leads_all(statement), [[first], [2], [5], [4], [5]])

    def test_if_with_empty_blocks(self):
        for test in (YES, NO):
            self.assertEqual(self.leads_all(("if", test, (), ()), PAY), [[1], [2]])
        self.assertEqual(self.leads_all(("if", YES, (), (PAY,)), PAY), [[2], [2], [3]])
        self.assertEqual(self.leads_all(("if", NO, (PAY,), ()), PAY), [[2], [2], [3]])
        self.assertEqual(self.leads_all(("if", NO, (PAY,), ())), [[2], [2]])

    def test_loop(self):
        self.assertEqual(self.leads_all(("loop", YES, (PAY, PAY)), PAY), [[1], [2], [0], [4]])
        self.assertEqual(self.leads_all(("loop", NO, (PAY, PAY)), PAY), [[3], [2], [0], [4]])
        self.assertEqual(self.leads_all(("loop", NO, (PAY,))), [[2], [0]])

    def test_loop_with_an_empty_block(self):
        self.assertEqual(self.leads_all(PAY, ("loop", YES, ()), PAY), [[1], [1], [3]])
        self.assertEqual(self.leads_all(PAY, ("loop", NO, ()), PAY), [[1], [2], [3]])

    def test_try(self):
        self.assertEqual(self.leads_all(("try", (PAY, PAY), "x", (PAY, PAY)), PAY), [[1], [2], [5], [4], [5], [6]])
        self.assertEqual(self.leads_all(("try", (), "x", (PAY,)), PAY), [[2], [2], [3]])
        self.assertEqual(self.leads_all(("try", (PAY,), "x", ())), [[1], [2]])

    def test_in_each_other(self):
        inner = ("if", YES, (PAY,), (PAY,))
        self.assertEqual(self.leads_all(("loop", YES, (PAY, inner))), [[1], [2], [3], [0], [0]])
        self.assertEqual(self.leads_all(("loop", YES, (inner, PAY)), PAY), [[1], [2], [4], [4], [0], [6]])
        self.assertEqual(self.leads_all(("if", YES, (("loop", YES, (PAY,)),), (inner,)), PAY),
                         [[1], [2], [1], [4], [6], [6], [7]])
        self.assertEqual(self.leads_all(("loop", YES, (("loop", NO, (("if", NO, (), ()),)),)), PAY),
                         [[1], [0], [1], [4]])
        self.assertEqual(self.leads_all(("try", (("try", (PAY,), "x", (inner,)),), "x", (("loop", NO, ()),)), PAY),
                         [[1], [2], [7], [4], [7], [7], [7], [8]])

    def test_places_are_those_of_the_plain_program(self):
        program = one(("last", (PAY,), (PAY, PAY)))
        self.assertEqual([leads(program, place) for place in range(6)],
                         [[1], [5], [3], [4], ("end", ("error", "unset", ())), [6]])
        self.assertIs(is_point(program, ("f", 7, (), ())), True)
        self.assertIs(is_point(program, ("f", 8, (), ())), False)


class Points(unittest.TestCase):
    def test_right(self):
        for point in [("f", 0, (), SHARED), ("f", 1, HELD, SHARED), ("look", 2, HELD[1:3], (CELL, ("row", ()))),
                      ("g", 0, (("zz", "a"),), (("kept", "f", ("a",)), "b"))]:
            self.assertIs(is_point(RICH, point), True)
        self.assertIs(is_point(WORD, ("f", 0, (), ())), True)

    def test_one_part_spoiled(self):
        right = ("f", 1, HELD, SHARED)
        wrong = [
            ["no", "F", "cell", None, ("f",), [], RICH, 0, b"f"],
            [-1, 2, True, False, None, "0", (0,), 10 ** 25],
            [list(HELD), HELD[::-1], (HELD[0], HELD[0]), (HELD[0], ("a", "c")), (("b", "a"), ("a", "b")), "ab", None,
             {}, (["a", "b"],), (("a",),), (("a", "b", "c"),),
             (("A", "b"),), ((1, "b"),), (("a", None),), (("a", ("b",)),),
             (("a", ("row", ["a"])),), (("a", ("thing", "box", (BOX,))),), ((("a",), "b"),), (HELD[0], None), ("ab",)],
            [list(SHARED), SHARED[:1], (), (*SHARED, "a"), ("lo", BOX), (("kept", "g", ()), "hi"), ("lo", None),
             (("low", "lo"), ("top", "hi")), "ab", None, {"low": "lo", "top": "hi"}, ("lo", ("row", ["a"]))],
        ]
        self.spoil(is_point, right, wrong)

    def spoil(self, judge, right, wrong):
        self.assertIs(judge(RICH, right), True)
        for at, things in enumerate(wrong):
            for thing in things:
                self.assertIs(judge(RICH, (*right[:at], thing, *right[at + 1:])), False, (at, thing))
            self.assertIs(judge(RICH, right[:at] + right[at + 1:]), False)
        for thing in (list(right), (*right, ()), None, dict(enumerate(right)), *odd_objects()):
            self.assertIs(judge(RICH, thing), False)
        for at in range(len(right)):
            for thing in odd_objects():
                spoiled = (*right[:at], thing, *right[at + 1:])
                if thing not in ((), 0, 1) or isinstance(thing, bool):
                    self.assertIs(judge(RICH, spoiled), False, spoiled)

    def test_calls(self):
        for call in [("f", ("a", BOX), SHARED), ("g", (), SHARED), ("h", (CELL, "b", ("row", ())), (CELL, "b"))]:
            self.assertIs(is_call(RICH, call), True)
        wrong = [["no", "F", "cell", None, ("f",), [], RICH, "g"],
                 [["a", "b"], ("a",), ("a", "b", "c"), (), "ab", None, ("a", None), ("A", "b"), (("a",), "b"),
                  ("a", ("thing", "box", (BOX,))), (("a", "a"), ("b", "b")), {"a": "b"}],
                 [list(SHARED), SHARED[:1], (*SHARED, "a"), ("lo", BOX), (("kept", "g", ()), "hi"), None, "ab"]]
        self.spoil(is_call, ("f", ("a", "b"), SHARED), wrong)

    def test_ends(self):
        for end in [("value", "a", SHARED), ("value", BOX, (CELL, ("row", ()))), ("error", "a", SHARED)]:
            self.assertIs(is_end(RICH, end), True)
        shared = [list(SHARED), SHARED[:1], (*SHARED, "a"), ("lo", BOX), (("kept", "g", ()), "hi"), None, "ab"]
        kinds = ["values", "end", None, ("value",), [], RICH, 0, ""]
        no_values = [None, "A", ("a",), ["a"], ("thing", "box", (BOX,)), RICH]
        no_words = [None, "A", ("a",), ("row", ()), CELL, ["a"], RICH]
        self.spoil(is_end, ("value", "a", SHARED), [kinds, no_values, shared])
        self.spoil(is_end, ("error", "a", SHARED), [kinds, no_words, shared])


class Entries(unittest.TestCase):
    def test_e02(self):
        self.assertEqual(entry(WORD, ("f", ("no",), ())), ("f", 0, (("a", "no"),), ()))

    def test_ascending_parameters(self):
        program = one(parameters=("c", "a", "b"), shared={"s": "w"})
        self.assertEqual(entry(program, ("f", ("x", ("row", ()), "a"), ("v",))),
                         ("f", 0, (("a", ("row", ())), ("b", "a"), ("c", "x")), ("v",)))

    def test_bad_call(self):
        for thing in [*odd_objects(), ("f", ["no"], ()), ("f", (), ()), ("f", ("no",), ("a",)), ("g", (), ())]:
            with self.assertRaises(BadCall):
                entry(WORD, thing)

    def test_begin_call(self):
        self.assertEqual(begin_call(RICH, "f", ("a", BOX)), ("f", ("a", BOX), ("lo", "hi")))
        self.assertEqual(begin_call(COIN, "f", ()), ("f", (), ()))

    def test_begin_call_errors(self):
        for thing in [*odd_objects(), "no", "cell", "low"]:
            with self.assertRaises(NoName) as caught:
                begin_call(RICH, thing, None)
            self.assertIs(caught.exception.name, thing)
        for thing in [*odd_objects(), ["a", "b"], ("a",), ("a", "b", "c"), ("a", None), "ab"]:
            with self.assertRaises(BadCall):
                begin_call(RICH, "f", thing)


class Order(unittest.TestCase):
    def test_order_of_ends(self):
        ends = [("error", "a", ("b",)), ("error", "b", (("row", ()),)), ("error", "b", ("a",)), ("error", "b", ("aa",)),
                ("value", ("row", ("z",)), ("a",)), ("value", "a", ("b",)), ("value", ("thing", "b", ()), ("a",)),
                ("value", ("kept", "b", ()), ("a",)), ("value", "ba", ("a",)), ("value", "c", ("a",))]
        self.assertEqual(sorted(ends[::-1], key=end_order), ends)


if __name__ == "__main__":
    unittest.main()
