"""Price tables, least and greatest prices (5.2, 5.3)."""

import unittest

from everyend.errors import BadCall, BadEnd, NeverComes, TooMany
from everyend.exploring import ends
from everyend.pricejudge import is_price_table
from everyend.prices import greatest, least, price_table
from tests.samples import COIN, WORD, odd_objects, one
from tests.test_exploring import CALL, DONE, NONE, YES, crowd

SAME = ("same", "x", ("a",))
ASK = ("ask", "x", ("a", "b"))


class Prices(unittest.TestCase):
    def prices(self, program, told, call=CALL):
        """The ends of a call with their prices; the table is one, and least and greatest say the same."""
        table = price_table(program, call)
        self.assertIs(is_price_table(program, call, table), True)
        row = table[(call[0], 0, tuple(zip(program.functions[call[0]][0], call[1])), call[2])]
        self.assertEqual(row, told)
        self.assertEqual(sorted(row), sorted(ends(program, call)))
        for end, (low, high) in row.items():
            self.assertEqual((least(program, call, end), greatest(program, call, end)), (low, high))

    def test_e05(self):
        self.assertEqual(least(COIN, CALL, DONE), 0)
        self.assertIsNone(greatest(COIN, CALL, DONE))

    def test_a_whole_table(self):
        no, yes, back = (("x", "no"),), (("x", "yes"),), (("x", "yes"), ("y", "done"))
        self.assertEqual(price_table(COIN, CALL), {
            ("f", 0, (), ()): {DONE: (0, None)}, ("f", 1, no, ()): {DONE: (0, 0)}, ("f", 1, yes, ()): {DONE: (2, None)},
            ("f", 2, yes, ()): {DONE: (2, None)}, ("f", 3, yes, ()): {DONE: (0, None)},
            ("f", 4, no, ()): {DONE: (0, 0)}, ("f", 4, back, ()): {DONE: (0, 0)}})

    def test_calls_that_end_at_once(self):
        self.prices(WORD, {("error", "a", ()): (0, 0)}, ("f", ("a",), ()))
        self.prices(one(), {NONE: (0, 0)})

    def test_no_ends(self):
        program = one(("pay", 3), ("loop", YES, (("pay", 2),)))
        self.assertEqual(price_table(program, CALL), {("f", place, (), ()): {} for place in range(3)})
        self.assertIs(is_price_table(program, CALL, price_table(program, CALL)), True)

    def test_asks_and_prices(self):
        self.prices(one(("pay", 3), ("pay", 0), ("pay", 9)), {NONE: (12, 12)})
        self.prices(one(ASK, ("if", SAME, (("pay", 4), ASK), ()), ("if", SAME, (("pay", 1),), (("pay", 7),))),
                    {NONE: (5, 11)})
        self.prices(one(ASK, ("if", SAME, (("pay", 4), ("return", "x")), ()), ASK, ("pay", 1), ("return", "x")),
                    {("value", "a", ()): (1, 4), ("value", "b", ()): (1, 1)})

    def test_loops(self):
        twice = one(ASK, ("loop", SAME, (("pay", 2), ASK)))
        self.prices(twice, {NONE: (0, None)})
        self.prices(one(ASK, ("loop", SAME, (("pay", 0), ASK)), ("pay", 1)), {NONE: (1, 1)})
        # A loop that is done just once, and one with different ways that cost nothing.
        self.prices(one(("set", "x", ("a",)), ("loop", SAME, (("pay", 2), ("set", "x", ("b",))))), {NONE: (2, 2)})
        inner = ("if", SAME, (("set", "y", ("a",)),), (("set", "y", ("b",)),))
        self.prices(one(ASK, ("loop", SAME, (ASK, inner, ASK)), ASK, ("if", SAME, (("pay", 3),), ())), {NONE: (0, 3)})

    def test_a_loop_that_pays_ahead_of_one_end_alone(self):
        program = one(ASK, ("if", SAME, (("ask", "x", ("c", "b")), ("loop", ("same", "x", ("c",)), (
            ("pay", 1), ("ask", "x", ("c", "b")))), ("return", ("left",))), ()), ("pay", 5), ("raise", ("oh",)))
        self.prices(program, {("value", "left", ()): (0, None), ("error", "oh", ()): (5, 5)})

    def test_a_ring_without_price_is_none(self):
        program = one(("pay", 6), ASK, ("loop", SAME, (("call", "y", "g", ()), ASK)), others={
            "g": ((), 1, (ASK, ("if", SAME, (("call", "y", "g", ()),), ())))})
        self.prices(program, {NONE: (6, 6)})

    def test_errors_that_are_caught_and_not(self):
        functions = {"g": ((), 1, (ASK, ("pay", 2), ("if", SAME, (("raise", ("oh",)),), ()), ("pay", 3)))}
        self.prices(one(("call", "y", "g", ()), ("pay", 9), others=functions),
                    {NONE: (14, 14), ("error", "oh", ()): (2, 2)})
        self.prices(one(("try", (("call", "y", "g", ()), ("pay", 9)), "z", (("pay", 1),)), others=functions),
                    {NONE: (3, 14)})

    def test_calls(self):
        functions = {"g": (("n",), 1, (ASK, ("if", SAME, (("pay", 4),), ()), ("pay", 1), ("return", "n")))}
        program = one(("call", "u", "g", (("v",),)), ("call", "u", "g", (("w",),)), ("pay", 1), ("return", "u"),
                      others=functions)
        self.prices(program, {("value", "w", ()): (3, 11)})

    def test_recursion_that_pays(self):
        self.prices(COIN, {DONE: (0, None)})
        again = ("if", SAME, (("call", "y", "f", ()), ("pay", 5)), ())
        self.prices(one(ASK, again), {NONE: (0, None)})
        # The end of the frame above is another one than that of the frame below, which pays.
        program = one(ASK, ("if", SAME, (("pay", 1), ("call", "y", "f", ()), ("return", "y")), ()), ("raise", ("oh",)))
        self.prices(program, {("error", "oh", ()): (0, None)})

    def test_a_price_behind_a_call_that_comes_back_again_and_again(self):
        """f calls itself twice: one of the calls stays in the ring, what the other one pays grows it."""
        self.prices(one(ASK, ("if", SAME, (("call", "y", "f", ()), ("call", "y", "f", ())), (("pay", 1),))),
                    {NONE: (1, None)})
        self.prices(one(ASK, ("if", SAME, (("call", "y", "f", ()), ("call", "y", "f", ())), ())), {NONE: (0, 0)})
        # What is called behind the ring pays, or does not.
        for many in (0, 2):
            program = one(ASK, ("if", SAME, (("call", "y", "f", ()), ("call", "y", "g", ())), ()), others={
                "g": ((), 1, (("pay", many),))})
            self.prices(program, {NONE: (0, None if many else 0)})
            program = one(ASK, ("if", SAME, (("call", "y", "g", ()), ("call", "y", "f", ())), ()), others={
                "g": ((), 1, (ASK, ("if", SAME, (("pay", many),), ())))})
            self.prices(program, {NONE: (0, None if many else 0)})

    def test_great_numbers(self):
        """Up to 99 calls stand in each other, each of which calls twice."""
        digits = "jabcdefghi"
        succ = ((("n",), 1, tuple(("if", ("same", "n", (digits[at],)), (("return", (digits[(at + 1) % 10],)),), ())
                                  for at in range(10))))
        less = (("call", "a", "next", ("a",)), ("if", ("same", "a", ("j",)), (
            ("call", "b", "next", ("b",)), ("if", ("same", "b", ("c",)), (("pay", 1), ("return", ("v",)),), ())), ()))
        program = one(*less, ("call", "x", "f", ("a", "b")), ("call", "x", "f", ("a", "b")), ("return", "x"),
                      parameters=("a", "b"), others={"next": succ})
        self.assertEqual(least(program, ("f", ("a", "j"), ()), ("value", "v", ())), 2 ** 28)
        self.assertEqual(greatest(program, ("f", ("a", "j"), ()), ("value", "v", ())), 2 ** 28)
        self.assertEqual(greatest(program, ("f", ("j", "c"), ()), ("value", "v", ())), 2 ** 99)

    def test_shared_values(self):
        program = one(ASK, ("share", "s", "x"), ("call", "y", "g", ()), ("return", "s"), shared={"s": "w"}, others={
            "g": ((), 1, (("if", ("same", "s", ("a",)), (("pay", 3),), (("share", "s", ("c",)),)),))})
        self.prices(program, {("value", "a", ("a",)): (3, 3), ("value", "c", ("c",)): (0, 0)}, ("f", (), ("w",)))

    def test_lasts(self):
        program = one(("last", (ASK, ("if", SAME, (("pay", 2), ("raise", "x")), ())), (("pay", 5),)))
        self.prices(program, {("error", "a", ()): (7, 7), NONE: (5, 5)})

    def test_a_new_table_each_time(self):
        table = price_table(COIN, CALL)
        for row in table.values():
            row.clear()
        table.clear()
        self.assertEqual(len(price_table(COIN, CALL)), 7)

    def test_errors_in_order(self):
        """BadCall, then BadEnd, then TooMany, then NeverComes."""
        crowded = crowd(9)
        for told in (least, greatest):
            for thing in odd_objects():
                self.assertRaises(BadCall, told, crowded, thing, None)
                self.assertRaises(BadEnd, told, crowded, CALL, thing)
            for end in (NONE, ("error", "oh", ())):
                with self.assertRaises(TooMany) as caught:
                    told(crowded, CALL, end)
                self.assertEqual(caught.exception.most, 3000)
            self.assertEqual(told(crowd(8), CALL, NONE), 0)
            self.assertRaises(NeverComes, told, crowd(8), CALL, DONE)
            self.assertRaises(NeverComes, told, COIN, CALL, NONE)
            self.assertRaises(NeverComes, told, one(("loop", YES, ())), CALL, NONE)
        for thing in odd_objects():
            self.assertRaises(BadCall, price_table, crowded, thing)
        self.assertRaises(TooMany, price_table, crowded, CALL)


if __name__ == "__main__":
    unittest.main()
