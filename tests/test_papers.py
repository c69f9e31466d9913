"""The cheapest, the dearest and the shortest runs (6.1)."""

import unittest

from everyend.errors import BadCall, BadEnd, Grows, NeverComes, TooLong, TooMany
from everyend.exploring import ends
from everyend.papers import cheapest, dearest, fewest_steps
from everyend.prices import greatest, least
from everyend.runs import ran
from tests.samples import COIN, WORD, odd_objects, one
from tests.searcher import Search
from tests.test_exploring import CALL, DONE, NONE, WORDS, YES, crowd
from tests.test_runs import steps_ahead

SAME = ("same", "x", ("a",))
ASK = ("ask", "x", ("a", "b"))
ALL = (cheapest, dearest, fewest_steps)


class Papers(unittest.TestCase):
    def shown(self, program, end, cheap, dear, few, call=CALL):
        """The answers, the prices and the steps of the runs; cheap and dear are tuples (answers, price, steps)."""
        for told, (answers, price, steps), best in ((cheapest, cheap, least), (dearest, dear, greatest)):
            self.assertEqual(told(program, call, end), answers)
            self.assertEqual(ran(program, call, answers), (end, price, steps))
            self.assertEqual(best(program, call, end), price)
        self.assertEqual(fewest_steps(program, call, end), few)

    def test_e06(self):
        self.assertEqual(cheapest(COIN, CALL, DONE), ("no",))

    def test_no_answers(self):
        self.shown(WORD, ("error", "a", ()), ((), 0, 1), ((), 0, 1), 1, ("f", ("a",), ()))
        self.shown(one(("pay", 3)), NONE, ((), 3, 2), ((), 3, 2), 2)

    def test_asks(self):
        program = one(ASK, ("if", SAME, (("pay", 4), ASK), (("pay", 1), ("pay", 0))), ("if", SAME, (("pay", 1),), ()))
        self.shown(program, NONE, (("b",), 1, 6), (("a", "a"), 5, 7), 6)

    def test_a_shorter_run_at_a_greater_price(self):
        program = one(ASK, ("if", SAME, (("pay", 1),), (("pay", 0), ("pay", 0))))
        self.shown(program, NONE, (("b",), 0, 5), (("a",), 1, 4), 4)

    def test_fewest_steps_of_all_runs_at_the_price(self):
        program = one(ASK, ("if", SAME, (("pay", 0), ("pay", 2), ("pay", 0)), (("pay", 2),)))
        self.shown(program, NONE, (("b",), 2, 4), (("b",), 2, 4), 4)

    def test_loops_and_recursion_without_price_do_not_lengthen_the_run(self):
        program = one(ASK, ("loop", SAME, (("set", "y", "x"), ASK)), ("pay", 3))
        self.shown(program, NONE, (("b",), 3, 4), (("b",), 3, 4), 4)
        program = one(ASK, ("if", SAME, (("call", "x", "f", ()),), ()), ("return", ("d",)))
        self.shown(program, ("value", "d", ()), (("b",), 0, 3), (("b",), 0, 3), 3)
        # The dearest way out stands behind two turns of the loop.
        program = one(ASK, ("set", "n", ("i",)), ("loop", SAME, (
            ("if", ("same", "n", ("k",)), (("pay", 2), ("return", ("d",))), ()),
            ("if", ("same", "n", ("j",)), (("set", "n", ("k",)),), ()),
            ("if", ("same", "n", ("i",)), (("set", "n", ("j",)),), ()), ASK)), ("return", ("d",)))
        search = Search(program, CALL)
        end = ("value", "d", ())
        self.assertEqual(ran(program, CALL, dearest(program, CALL, end)), (end, *search.dearest(end)))
        self.assertEqual(dearest(program, CALL, end), ("a", "a", "a"))
        self.assertEqual(cheapest(program, CALL, end), ("b",))

    def test_calls(self):
        functions = {"g": (("n",), 1, (ASK, ("if", SAME, (("pay", 4),), ()), ("pay", 1), ("return", "x")))}
        program = one(("call", "u", "g", (("v",),)), ("call", "w", "g", (("w",),)), ("return", "u"), others=functions)
        self.shown(program, ("value", "a", ()), (("a", "b"), 6, 12), (("a", "a"), 10, 13), 12)
        self.shown(program, ("value", "b", ()), (("b", "b"), 2, 11), (("b", "a"), 6, 12), 11)

    def test_errors_through_several_frames(self):
        functions = {"g": ((), 1, (ASK, ("pay", 1), ("call", "y", "h", ()), ("pay", 7))),
                     "h": ((), 1, (("ask", "z", ("ah", "oh")), ("pay", 2), ("raise", "z")))}
        program = one(("try", (("call", "y", "g", ()),), "z", (("if", ("same", "z", ("oh",)), (("pay", 5),), ()),)),
                      ("return", ("d",)), others=functions)
        for told, answer, price, steps in ((cheapest, "ah", 3, 10), (dearest, "oh", 8, 11)):
            answers = told(program, CALL, ("value", "d", ()))
            self.assertEqual((len(answers), answers[1]), (2, answer))
            self.assertEqual(ran(program, CALL, answers), (("value", "d", ()), price, steps))
        program = one(("call", "y", "g", ()), others=functions)
        self.assertEqual(cheapest(program, CALL, ("error", "oh", ()))[1], "oh")
        self.assertEqual(fewest_steps(program, CALL, ("error", "oh", ())), 7)

    def test_lasts(self):
        program = one(("last", (ASK, ("if", SAME, (("pay", 2), ("raise", "x")), ())), (("pay", 5),)))
        self.shown(program, ("error", "a", ()), (("a",), 7, 7), (("a",), 7, 7), 7)
        self.shown(program, NONE, (("b",), 5, 5), (("b",), 5, 5), 5)

    def test_all_rows_of_answers(self):
        """Of a program whose runs all end, each row of answers."""
        program = one(ASK, ("call", "y", "g", ("x",)), ("ask", "z", WORDS), ("call", "y", "g", ("z",)), ("return", "y"),
                      others={"g": (("n",), 1, (
                          ("if", ("same", "n", ("c",)), (("raise", ("oh",)),), ()), ASK, ("pay", 1),
                          ("if", ("same", "n", "x"), (("pay", 3), ASK, ("return", "x")), (("pay", 2),))))})
        found = {}
        waiting = [()]
        while waiting:
            answers = waiting.pop()
            try:
                end, price, steps = ran(program, CALL, answers)
                found.setdefault(end, []).append((price, steps))
            except ValueError:
                waiting.extend((*answers, word) for word in WORDS if len(answers) < 7)
        self.assertEqual(set(found), set(ends(program, CALL)))
        self.assertEqual(len(found), 4)
        for end, told in found.items():
            self.assertEqual(ran(program, CALL, cheapest(program, CALL, end))[1:], min(told))
            most = max(price for price, _ in told)
            self.assertEqual(ran(program, CALL, dearest(program, CALL, end))[1:],
                             (most, min(steps for price, steps in told if price == most)))
            self.assertEqual(fewest_steps(program, CALL, end), min(steps for _, steps in told))

    def test_20000_steps_and_more(self):
        tail = (ASK, ("if", SAME, (("pay", 1), ("pay", 1)), ()))
        # Ahead of the tail, the shortest run has three steps more, the dearest one five.
        program = steps_ahead(19995, *tail)
        self.assertEqual(cheapest(program, CALL, NONE), ("b",))
        self.assertEqual(dearest(program, CALL, NONE), ("a",))
        self.assertEqual(ran(program, CALL, ("a",)), (NONE, 2, 20000))
        for many in (19996, 19997):
            program = steps_ahead(many, *tail)
            self.assertEqual(cheapest(program, CALL, NONE), ("b",))
            self.assertRaises(TooLong, dearest, program, CALL, NONE)
            self.assertEqual(fewest_steps(program, CALL, NONE), many + 3)
        program = steps_ahead(19998, *tail)
        self.assertRaises(TooLong, cheapest, program, CALL, NONE)
        self.assertRaises(TooLong, dearest, program, CALL, NONE)
        self.assertEqual(fewest_steps(program, CALL, NONE), 20001)

    def test_a_longer_run_that_is_cheaper_is_too_long(self):
        program = steps_ahead(19990, ASK, ("if", SAME, (("pay", 1),), (("pay", 0),) * 9))
        self.assertRaises(TooLong, cheapest, program, CALL, NONE)
        self.assertEqual(dearest(program, CALL, NONE), ("a",))
        self.assertEqual(fewest_steps(program, CALL, NONE), 19994)

    def test_many_answers(self):
        digits = "abcdefghi"
        steps = tuple(("if", ("same", "n", (now,)), (ASK, ("set", "n", (then,)), ("call", "y", "g", ("n",))), ())
                      for now, then in zip(digits, digits[1:]))[::-1]
        program = one(("call", "y", "g", (("a",),)), others={"g": (("n",), 1, steps)})
        self.assertEqual(len(cheapest(program, CALL, NONE)), 8)

    def test_errors_in_order(self):
        """BadCall, BadEnd, TooMany, NeverComes, then Grows, then TooLong."""
        crowded = crowd(9)
        for told in ALL:
            for thing in odd_objects():
                self.assertRaises(BadCall, told, crowded, thing, None)
                self.assertRaises(BadEnd, told, crowded, CALL, thing)
            for end in (NONE, DONE):
                with self.assertRaises(TooMany) as caught:
                    told(crowded, CALL, end)
                self.assertEqual(caught.exception.most, 3000)
            self.assertRaises(NeverComes, told, crowd(8), CALL, DONE)
            self.assertRaises(NeverComes, told, COIN, CALL, NONE)
            self.assertRaises(NeverComes, told, steps_ahead(20001), CALL, DONE)
            self.assertRaises(NeverComes, told, one(("loop", YES, ())), CALL, NONE)
        self.assertRaises(Grows, dearest, COIN, CALL, DONE)
        paying = ("loop", SAME, (("pay", 1), ASK))
        self.assertRaises(Grows, dearest, steps_ahead(20001, ASK, paying), CALL, NONE)
        self.assertRaises(TooLong, cheapest, steps_ahead(20001, ASK, paying), CALL, NONE)


if __name__ == "__main__":
    unittest.main()
