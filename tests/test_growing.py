"""Growing papers (6.2, 6.3)."""

import unittest

from everyend.errors import BadCall, BadEnd, NeverComes, TooLong, TooMany
from everyend.growing import growing, is_growing
from everyend.prices import greatest
from everyend.runs import ran
from tests.samples import COIN, odd_objects, one
from tests.test_exploring import CALL, DONE, NONE, YES, crowd
from tests.test_runs import steps_ahead

ASK = ("ask", "x", ("a", "b"))
SAME = ("same", "x", ("a",))
OH = ("error", "oh", ())
# The steps by the answers a, a, b: ask, loop, pay, ask, loop, pay, ask, loop, end place.
TURN = (ASK, ("loop", SAME, (("pay", 1), ASK)))
AGAIN = ("if", SAME, (("call", "y", "f", ()),), ())
LONG = ("call", "y", "long", ())


def with_long(many, *statements):
    """A program of which f has these statements, and the function long takes so many steps."""
    functions = steps_ahead(many - 1).functions
    functions["long"] = functions.pop("f")
    return one(*statements, others=functions)


def tour(there, back, leave):
    """Statements that go from a to b and back to a, again and again, begin at each of these and can leave at each."""
    def at(name, other, block):
        return ("if", ("same", "p", (name,)), (("ask", "q", ("go", "out")), ("if", ("same", "q", ("out",)), (
            *leave, ("return", ("done",))), block), ("set", "p", (other,))), ())
    both = ("if", ("same", "p", ("a",)), at("a", "b", there)[2], at("b", "a", back)[2])
    return ("set", "y", ("none",)), ("ask", "p", ("a", "b")), ("loop", YES, (both,))


class Growing(unittest.TestCase):
    def grows(self, program, end, call=CALL):
        """There is no greatest price, and a paper shows it."""
        self.assertIsNone(greatest(program, call, end))
        paper = growing(program, call, end)
        self.assertIs(is_growing(program, call, end, paper), True)
        return paper

    def stays(self, program, end, call=CALL):
        self.assertIsNotNone(greatest(program, call, end))
        self.assertIsNone(growing(program, call, end))

    def is_too_long(self, program, end):
        self.assertIsNone(greatest(program, CALL, end))
        self.assertRaises(TooLong, growing, program, CALL, end)

    def test_coin(self):
        self.assertEqual(self.grows(COIN, DONE), (("yes", "no"), 0, 4))

    def test_loops(self):
        self.assertEqual(self.grows(one(*TURN), NONE), (("a", "a", "b"), 1, 4))
        self.stays(one(ASK, ("loop", SAME, (("pay", 0), ASK)), ("pay", 9)), NONE)
        self.stays(one(ASK, ("if", SAME, (("pay", 1),), ())), NONE)

    def test_a_call_that_pays_in_a_loop(self):
        functions = {"g": ((), 1, (("ask", "y", ("l", "r")), ("if", ("same", "y", ("r",)), (("pay", 1),), ())))}
        program = one(ASK, ("loop", SAME, (("call", "y", "g", ()), ASK)), others=functions)
        self.assertIn("r", self.grows(program, NONE)[0])

    def test_a_loop_in_a_called_function(self):
        self.grows(one(("call", "y", "g", ()), ("raise", ("oh",)), others={"g": ((), 1, TURN)}), OH)

    def test_a_price_behind_the_call(self):
        self.grows(one(ASK, ("if", SAME, (("call", "y", "f", ()), ("pay", 2)), ())), NONE)
        self.stays(one(ASK, ("if", SAME, (("call", "y", "f", ()), ("pay", 0)), ())), NONE)

    def test_a_price_in_another_call(self):
        program = one(ASK, ("if", SAME, (("call", "y", "f", ()), ("call", "y", "g", ())), ()), others={
            "g": ((), 1, (("pay", 2),))})
        self.grows(program, NONE)
        self.grows(one(ASK, ("if", SAME, (("call", "y", "f", ()), ("call", "y", "f", ())), (("pay", 1),))), NONE)

    def test_frames_that_end_by_one_step(self):
        self.assertEqual(self.grows(one(("pay", 1), ASK, AGAIN, ("raise", ("oh",))), OH)[0][-1], "b")

    def test_one_end_of_two(self):
        program = one(ASK, ("if", SAME, (("loop", SAME, (("pay", 3), ASK)), ("return", ("done",))), ()), ("raise", ("oh",)))
        self.grows(program, DONE)
        self.stays(program, OH)

    def test_lasts(self):
        self.grows(one(ASK, ("loop", SAME, (("last", (ASK,), (("pay", 1),)),))), NONE)

    def test_errors_in_order(self):
        """BadCall, BadEnd, TooMany, NeverComes; then None or TooLong."""
        crowded = crowd(9)
        for thing in odd_objects():
            self.assertRaises(BadCall, growing, crowded, thing, None)
            self.assertRaises(BadEnd, growing, crowded, CALL, thing)
        with self.assertRaises(TooMany) as caught:
            growing(crowded, CALL, DONE)
        self.assertEqual(caught.exception.most, 3000)
        self.assertIsNone(growing(crowd(8), CALL, NONE))
        self.assertRaises(NeverComes, growing, crowd(8), CALL, DONE)
        self.assertRaises(NeverComes, growing, COIN, CALL, NONE)
        self.assertRaises(NeverComes, growing, one(("loop", YES, (("pay", 1),))), CALL, NONE)
        self.assertIsNone(growing(steps_ahead(20005), CALL, NONE))

    def test_too_many_steps_ahead(self):
        program = steps_ahead(19991, *TURN)
        self.assertEqual(ran(program, CALL, self.grows(program, NONE)[0])[2], 20000)
        for many in (19992, 20100):
            self.is_too_long(steps_ahead(many, *TURN), NONE)

    def test_too_many_steps_in_the_turn(self):
        turn = (ASK, ("loop", SAME, (LONG, ("pay", 1), ASK)))
        # Behind ask, loop, call and the long function y is known; from there to the same point it is pay, ask, loop,
        # call and the long function again; then pay, ask, loop, end place.
        for many, let in ((9000, True), (9994, True), (9995, False), (20000, False)):
            program = with_long(many, *turn)
            if let:
                self.assertLessEqual(ran(program, CALL, self.grows(program, NONE)[0])[2], 20000)
            else:
                self.is_too_long(program, NONE)

    def test_too_many_steps_behind_the_turn(self):
        """Each further frame has the long call behind it once more."""
        # Ask, if, call; ask, if; in both frames call, the long function, pay and end place.
        for many, let in ((9000, True), (9994, True), (9995, False)):
            program = with_long(many, ASK, AGAIN, LONG, ("pay", 1))
            if let:
                self.assertLessEqual(ran(program, CALL, self.grows(program, NONE)[0])[2], 20000)
            else:
                self.is_too_long(program, NONE)

    def test_the_turn_that_is_short_enough(self):
        """The first loop that is met cannot be turned in time, the second one can."""
        program = with_long(9000, ASK, ("loop", SAME, (("pay", 1), LONG, LONG, LONG, ASK)), LONG, *TURN)
        answers, _, _ = self.grows(program, NONE)
        self.assertEqual(answers[0], "b")

    def test_a_turn_that_is_too_long_of_parts_that_are_not(self):
        """Each step of the turn, and each of its parts, is in a run that is short enough; the whole turn is not."""
        for many, let in ((2000, True), (6000, False)):
            program = with_long(many, *tour((("pay", 1), LONG), (LONG,), (LONG, LONG)))
            if let:
                self.grows(program, DONE)
            else:
                self.is_too_long(program, DONE)

    def test_a_short_turn_in_a_long_one(self):
        """The way around by b is too long; the short turn at c is further from begin and end."""
        stay = (("ask", "q", ("turn", "go")), ("loop", ("same", "q", ("turn",)), (("pay", 1), ("ask", "q", ("turn", "go")))))
        program = with_long(9000, *tour((*stay, LONG), (LONG,), (("pay", 0),)))
        answers, low, high = self.grows(program, DONE)
        self.assertEqual(answers[-3:], ("turn", "go", "out"))
        self.assertEqual(high - low, 3)


class Judged(unittest.TestCase):
    def right(self, program, end, paper, call=CALL):
        self.assertIs(is_growing(program, call, end, paper), True)

    def wrong(self, program, end, paper, call=CALL):
        self.assertIs(is_growing(program, call, end, paper), False)

    def papers(self, program, end, answers, most=30):
        """All pairs that make a paper with the answers."""
        return [(low, high) for low in range(-1, most) for high in range(-1, most)
                if is_growing(program, CALL, end, (answers, low, high))]

    def test_e07(self):
        self.right(COIN, DONE, (("yes", "no"), 0, 4))

    def test_numbers_of_steps(self):
        # The steps: ask, if, pay, call; ask, if, return.
        self.assertEqual(self.papers(COIN, DONE, ("yes", "no")), [(0, 4)])
        self.assertEqual(self.papers(COIN, DONE, ("yes", "yes", "no")), [(0, 4), (0, 8), (1, 5), (2, 6), (3, 7), (4, 8)])
        for low, high in ((4, 0), (0, 0), (4, 4), (0, 10 ** 29), (-10 ** 29, 4), (0, 20000), (0, 20001), (-8, 4)):
            self.wrong(COIN, DONE, (("yes", "no"), low, high))

    def test_a_loop(self):
        self.assertEqual(self.papers(one(*TURN), NONE, ("a", "a", "b")), [(1, 4), (2, 5), (3, 6)])
        self.assertEqual(self.papers(one(*TURN), NONE, ("a", "b")), [])

    def test_flags(self):
        # x is known at the begin: both 0 and 1, which flags equal, would do.
        program = one(("loop", YES, (("pay", 1), ASK, ("if", SAME, (("return", ("done",)),), ()))), parameters=("x",))
        call = ("f", ("b",), ())
        for low, high in ((0, 4), (1, 5)):
            self.right(program, DONE, (("b", "a"), low, high), call)
            self.wrong(program, DONE, (("b", "a"), bool(low), high), call)

    def test_forms(self):
        for paper in ((["yes", "no"], 0, 4), [("yes", "no"), 0, 4], (("yes", "no"), 0), (("yes", "no"), 0, 4, 4),
                      (("yes", "no"), "0", 4), (("yes", "no"), 0, None), ("yesno", 0, 4), (("yes", "no"), (0, 4)),
                      (None, 0, 4), ("no", 0, 4), (("yes", "no"), (0,), (4,)), ({"yes": "no"}, 0, 4)):
            self.wrong(COIN, DONE, paper)

    def test_answers(self):
        for answers in ((), ("yes",), ("no",), ("yes", "yes"), ("yes", "no", "no"), ("yes", "no", None), ("yes", "maybe"),
                        ("maybe", "no"), ("yes", None), ("yes", ("no",)), ("yes", ["no"]), (True, False), ("no", "yes")):
            self.wrong(COIN, DONE, (answers, 0, 4))

    def test_other_ends(self):
        for end in (NONE, OH, ("value", "yes", ()), ("error", "done", ())):
            self.wrong(COIN, end, (("yes", "no"), 0, 4))

    def test_frames_that_end_with_other_values(self):
        program = one(("pay", 1), ASK, AGAIN, ("return", "x"))
        self.assertEqual(self.papers(program, ("value", "a", ()), ("a", "b")), [])
        self.assertIn((0, 4), self.papers(program, ("value", "a", ()), ("a", "a", "b")))
        self.assertNotIn((0, 8), self.papers(program, ("value", "a", ()), ("a", "a", "b")))
        self.assertEqual(greatest(program, CALL, ("value", "b", ())), 1)

    def test_frames_that_end_with_other_shared_values(self):
        program = one(("pay", 1), ASK, AGAIN, ("share", "s", "x"), ("return", ("done",)), shared={"s": "w"})
        call, end = ("f", (), ("w",)), ("value", "done", ("a",))
        self.assertEqual(ran(program, call, ("a", "b"))[0], end)
        self.wrong(program, end, (("a", "b"), 0, 4), call)
        self.right(program, end, (("a", "a", "b"), 0, 4), call)
        self.wrong(program, end, (("a", "a", "b"), 0, 8), call)

    def test_points_with_other_shared_values(self):
        program = one(("pay", 1), ASK, ("share", "s", "x"), AGAIN, ("return", ("done",)), shared={"s": "w"})
        call, end = ("f", (), ("w",)), ("value", "done", ("b",))
        self.wrong(program, end, (("a", "a", "b"), 0, 5), call)
        self.right(program, end, (("a", "a", "b"), 5, 10), call)

    def test_an_error_is_not_the_value_of_its_word(self):
        program = one(("pay", 1), ASK, ("if", SAME, (("try", (("call", "y", "f", ()), ("return", "y")), "y", ()), (
            "return", "y")), ()), ("raise", ("oh",)))
        # The inner frame ends with the error, the outer ones with the value.
        self.assertEqual(ran(program, CALL, ("a", "b"))[0], ("value", "oh", ()))
        self.assertEqual(self.papers(program, ("value", "oh", ()), ("a", "b")), [])
        self.assertIn((0, 5), self.papers(program, ("value", "oh", ()), ("a", "a", "b")))

    def test_two_frames_that_are_taken_off_by_one_step(self):
        program = one(("pay", 1), ASK, AGAIN, ("raise", ("oh",)))
        # The steps: pay, ask, if, call; pay, ask, if, raise.
        self.assertEqual(self.papers(program, OH, ("a", "b")), [(0, 4), (1, 5)])
        free = one(ASK, AGAIN, ("raise", ("oh",)))
        self.assertEqual(self.papers(free, OH, ("a", "b")), [])

    def test_prices_0(self):
        self.assertEqual(self.papers(one(ASK, AGAIN, ("pay", 0)), NONE, ("a", "b")), [])
        # Paid behind the calls alone: the steps k + 1 to l.
        self.assertEqual(self.papers(one(ASK, AGAIN, ("pay", 2)), NONE, ("a", "b")), [(0, 3)])
        # Paid just where the calls have ended: behind j, and no more behind k.
        self.assertEqual(self.papers(one(ASK, ("if", SAME, (("call", "y", "f", ()),), (("pay", 5),))), NONE, ("a", "b")), [])

    def test_a_recursion_in_which_k_and_l_are_two_steps(self):
        program = one(("pay", 1), ASK, AGAIN)
        # The steps: pay, ask, if, call; pay, ask, if, end place; end place.
        self.assertEqual(self.papers(program, NONE, ("a", "b")), [(0, 4), (1, 5)])

    def test_a_frame_that_ends_between(self):
        # The steps: call, pay, end place; call, pay, end place; end place.
        program = one(("call", "y", "g", ()), ("call", "y", "g", ()), others={"g": ((), 1, (("pay", 1),))})
        self.assertEqual(ran(program, CALL, ()), (NONE, 2, 7))
        self.assertEqual(self.papers(program, NONE, ()), [])
        # Points of f come back, those of g do not without the end of a frame.
        program = one(("set", "y", ("none",)), *TURN[:1], ("loop", SAME, (("call", "y", "g", ()), ASK)), others={
            "g": ((), 1, (("pay", 1), ("pay", 0)))})
        # The steps: set, ask; loop, call, pay, pay, end place, ask; the same six again; loop, end place.
        told = self.papers(program, NONE, ("a", "a", "b"))
        self.assertEqual(told, [(2, 8), (3, 9), (7, 13)])

    def test_odd_objects(self):
        for thing in odd_objects():
            for paper in (thing, (thing, 0, 4), (("yes", thing), 0, 4), (("yes", "no"), 0, thing), (("yes", "no", thing), 0, 4)):
                self.wrong(COIN, DONE, paper)
            if thing != 0 or isinstance(thing, bool):
                self.wrong(COIN, DONE, (("yes", "no"), thing, 4))

    def test_calls_and_ends_that_are_none(self):
        for thing in odd_objects():
            self.wrong(COIN, DONE, (("yes", "no"), 0, 4), thing)
            self.wrong(COIN, thing, (("yes", "no"), 0, 4))

    def test_runs_of_20000_steps_and_of_more(self):
        self.wrong(one(("loop", YES, (("pay", 1),))), NONE, ((), 0, 2))
        program = steps_ahead(19991, *TURN)
        answers, low, high = growing(program, CALL, NONE)
        self.right(program, NONE, (answers, low, high))
        self.wrong(program, NONE, (("a", *answers), low, high))
        self.assertRaises(TooLong, ran, program, CALL, ("a", *answers))


if __name__ == "__main__":
    unittest.main()
