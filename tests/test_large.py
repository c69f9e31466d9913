"""Where many ends can come from many points, the answers come in seconds (0.5)."""

import time
import unittest

from everyend.alike import parting
from everyend.depths import deepest, depth, shallow
from everyend.desk import Desk
from everyend.edits import lasting
from everyend.errors import Grows
from everyend.exploring import can_come, ends, reached
from everyend.goingon import always_ends, going_on, is_going_on, longest
from everyend.growing import growing, is_growing
from everyend.papers import cheapest, dearest, fewest_steps
from everyend.pricejudge import is_price_table
from everyend.prices import greatest, least, price_table
from everyend.ranktables import is_rank_table, rank_table
from everyend.runs import ran
from everyend.texts import program_text
from tests.samples import one
from tests.test_exploring import CALL, WORDS

WIDE = {"thin": (None, 1, ("p",), {}), "wide": ("thin", 1, ("q", "r", "s"), {})}
# Its ends are the 81 things of four words, at the price 2, each in 7 steps.
MANY = ((), 1, (*[("ask", name, WORDS) for name in "pqrs"], ("pay", 2),
                ("new", "t", "wide", ("p", "q", "r", "s")), ("return", "t")))
MOST_SECONDS = 20


class Large(unittest.TestCase):
    def timed(self, told, *arguments):
        begin = time.monotonic()
        answer = told(*arguments)
        self.assertLess(time.monotonic() - begin, MOST_SECONDS, told)
        return answer

    def check(self, program, pairs, low, high):
        """A program with 81 ends, all at these prices, and so many ends over all points."""
        found = self.timed(ends, program, CALL)
        self.assertEqual(len(found), 81)
        table = self.timed(price_table, program, CALL)
        self.assertEqual(self.timed(reached, program, CALL), len(table))
        self.assertEqual(sum(len(row) for row in table.values()), pairs)
        self.assertIs(self.timed(is_price_table, program, CALL, table), True)
        for end in found[::30]:
            self.assertIs(self.timed(can_come, program, CALL, end), True)
            self.assertEqual(self.timed(least, program, CALL, end), low)
            self.assertEqual(self.timed(greatest, program, CALL, end), high)
            told, price, steps = ran(program, CALL, self.timed(cheapest, program, CALL, end))
            self.assertEqual((told, price), (end, low))
            self.assertEqual(self.timed(fewest_steps, program, CALL, end), steps)
            self.assertEqual(self.timed(depth, program, CALL, end), 2)
            self.assertEqual(ran(program, CALL, self.timed(shallow, program, CALL, end)), (told, price, steps))
            paper = self.timed(growing, program, CALL, end)
            if high is None:
                self.assertRaises(Grows, self.timed, dearest, program, CALL, end)
                self.assertIs(self.timed(is_growing, program, CALL, end, paper), True)
            else:
                self.assertIsNone(paper)
                answers = self.timed(dearest, program, CALL, end)
                self.assertEqual(ran(program, CALL, answers)[:2], (end, high))
        self.assertIs(self.timed(always_ends, program, CALL), high is not None)
        self.assertIsNone(self.timed(parting, program, "f", program, "f", [()]))
        rest = self.timed(lasting, program, CALL, table, "f")
        self.assertEqual({point[0] for point in rest}, {"g"})
        desk = Desk()
        desk.tell("program p " + program_text(program).replace("\n", "|"))
        told = self.timed(desk.tell, "ends p f").split(" | ")
        self.assertEqual((len(told), {part.rpartition(" (")[2] for part in told}), (81, {f"{low} {high or '-'})"}))

    def test_calls_one_behind_the_other(self):
        program = one(*(("call", "x", "g", ()),) * 3, ("return", "x"), classes=WIDE, others={"g": MANY})
        self.check(program, 13851, 6, 6)
        self.assertEqual(self.timed(longest, program, CALL), 3 * 8 + 1)
        self.assertEqual(self.timed(deepest, program, CALL), 2)
        self.assertIsNone(self.timed(going_on, program, CALL))
        table = self.timed(rank_table, program, CALL)
        self.assertIs(self.timed(is_rank_table, program, CALL, table), True)

    def test_calls_again_and_again(self):
        leave = ("if", ("same", "y", ("a",)), (("return", "x"),), ())
        program = one(("call", "x", "g", ()), ("ask", "y", ("a", "b")), leave, ("call", "x", "f", ()), ("return", "x"),
                      classes=WIDE, others={"g": MANY})
        self.check(program, 20574, 2, None)
        self.assertIsNone(self.timed(longest, program, CALL))
        self.assertIsNone(self.timed(deepest, program, CALL))
        self.assertIsNone(self.timed(rank_table, program, CALL))
        self.assertIs(self.timed(is_going_on, program, CALL, self.timed(going_on, program, CALL)), True)

    def test_a_loop_of_many_points(self):
        """What was called last is kept around the loop, and comes as the end."""
        turn = (("ask", "y", ("a", "b")), ("if", ("same", "y", ("a",)), (("return", "x"),), ()), ("call", "x", "g", ()))
        program = one(("call", "x", "g", ()), ("loop", ("same", ("a",), ("a",)), turn), classes=WIDE, others={"g": MANY})
        self.check(program, 40176, 2, None)
        self.assertIs(self.timed(is_going_on, program, CALL, self.timed(going_on, program, CALL)), True)


if __name__ == "__main__":
    unittest.main()
