"""Runs that go on for ever, papers that show them, and the longest runs (7.1, 7.3, 7.4)."""

import unittest

from everyend.errors import BadCall, TooLong, TooMany
from everyend.goingon import always_ends, going_on, is_going_on, longest
from everyend.ranktables import rank_table
from tests.samples import COIN, WORD, odd_objects, one
from tests.searcher import Search
from tests.test_exploring import CALL, WORDS, YES, crowd
from tests.test_growing import tour
from tests.test_runs import steps_ahead

ASK = ("ask", "x", ("a", "b"))
SAME = ("same", "x", ("a",))
AGAIN = ("call", "y", "f", ())
FOREVER = one(("loop", YES, ()))


class GoingOn(unittest.TestCase):
    def goes_on(self, program, call=CALL):
        """A paper shows it, and nothing else that is told says that all runs end."""
        paper = going_on(program, call)
        self.assertIs(is_going_on(program, call, paper), True)
        self.assertIs(always_ends(program, call), False)
        self.assertEqual((rank_table(program, call), longest(program, call)), (None, None))
        return paper

    def does_end(self, program, steps, call=CALL):
        """All runs end, in at most so many steps."""
        self.assertIsNone(going_on(program, call))
        self.assertIs(always_ends(program, call), True)
        self.assertIsNotNone(rank_table(program, call))
        self.assertEqual(longest(program, call), steps)

    def test_e08(self):
        self.assertIs(is_going_on(COIN, CALL, (("yes",), 0, 4)), True)
        self.does_end(WORD, 1, ("f", ("a",), ()))

    def test_coin(self):
        self.assertEqual(self.goes_on(COIN), (("yes",), 0, 4))

    def test_loops(self):
        self.assertEqual(self.goes_on(FOREVER), ((), 0, 1))
        self.assertEqual(self.goes_on(one(("pay", 1), ("loop", YES, (("pay", 2), ("pay", 3))), ("pay", 4))), ((), 1, 4))
        # It can be left at each turn.
        self.assertEqual(self.goes_on(one(ASK, ("loop", SAME, (ASK,)))), (("a", "a"), 1, 3))
        self.does_end(one(("loop", ("not", YES), (ASK,))), 2)
        self.does_end(one(("set", "x", ("a",)), ("loop", SAME, (("set", "x", ("b",)),))), 5)

    def test_recursion(self):
        self.assertEqual(self.goes_on(one(AGAIN)), ((), 0, 1))
        self.assertEqual(self.goes_on(one(("pay", 1), AGAIN)), ((), 0, 2))
        swap = one(("call", "x", "f", ("b", "a")), parameters=("a", "b"))
        self.assertEqual(self.goes_on(swap, ("f", ("u", "v"), ())), ((), 0, 2))
        less = one(("if", ("same", "a", ("k",)), (("call", "y", "f", (("j",),)),), ()), ("if", ("same", "a", ("j",)), (
            ("call", "y", "f", (("i",),)),), ()), parameters=("a",))
        self.does_end(less, 3, ("f", ("i",), ()))
        # Twice if, call and end place; those of what is called.
        self.does_end(less, 4 + 3, ("f", ("j",), ()))
        self.does_end(less, 4 + 7, ("f", ("k",), ()))

    def test_below_other_frames(self):
        for function in ((("loop", YES, ()),), (("call", "y", "h", ()),), (("pay", 1), ASK, ("loop", SAME, ()))):
            program = one(("pay", 1), ("try", (("call", "y", "g", ()),), "z", ()), others={
                "g": ((), 1, (("call", "y", "h", ()),)), "h": ((), 1, function)})
            _, low, high = self.goes_on(program)
            self.assertGreaterEqual(low, 3)

    def test_what_comes_behind_a_call(self):
        """The loop is behind a call that asks, and comes back with one of its ends alone."""
        functions = {"g": ((), 1, (ASK, ("if", SAME, (("raise", ("oh",)),), ()), ("return", "x")))}
        program = one(("call", "y", "g", ()), ("loop", YES, ()), others=functions)
        self.assertEqual(self.goes_on(program)[0], ("b",))
        program = one(("try", (("call", "y", "g", ()),), "z", (("loop", YES, ()),)), others=functions)
        self.assertEqual(self.goes_on(program)[0], ("a",))
        program = one(("call", "y", "g", ()), ("loop", ("same", "y", ("a",)), ()), others=functions)
        self.does_end(program, 1 + 3 + 2)

    def test_behind_what_never_ends(self):
        """The ring stands in what is called, not behind it."""
        program = one(("call", "y", "g", ()), ("loop", YES, ()), others={"g": ((), 1, (("pay", 1), ("loop", YES, ())))})
        self.assertEqual(self.goes_on(program), ((), 2, 3))

    def test_shared_values(self):
        program = one(("loop", ("not", ("same", "s", ("b",))), (ASK, ("share", "s", "x"))), shared={"s": "w"})
        self.assertEqual(self.goes_on(program, ("f", (), ("w",)))[0], ("a", "a"))
        self.does_end(program, 2, ("f", (), ("b",)))

    def test_lasts(self):
        self.goes_on(one(("last", (), (("loop", YES, ()),))))
        self.does_end(one(("last", (ASK, ("if", SAME, (("raise", ("oh",)),), ())), (("pay", 1),))), 6)

    def test_errors_in_order(self):
        """BadCall, then TooMany, then TooLong."""
        crowded = crowd(9)
        for told in (going_on, always_ends, longest):
            for thing in odd_objects():
                self.assertRaises(BadCall, told, crowded, thing)
            with self.assertRaises(TooMany) as caught:
                told(crowded, CALL)
            self.assertEqual(caught.exception.most, 3000)
        self.does_end(crowd(8), 8 + 2 + 331 + 1)

    def test_too_long(self):
        # Ahead of a turn of three steps.
        loop = ("loop", YES, (("pay", 1), ("pay", 1)))
        self.assertEqual(self.goes_on(steps_ahead(19997, loop)), ((), 19997, 20000))
        for many in (19998, 19999, 20000, 22000):
            program = steps_ahead(many, loop)
            self.assertRaises(TooLong, going_on, program, CALL)
            self.assertIs(always_ends(program, CALL), False)
            self.assertIsNone(longest(program, CALL))

    def test_a_turn_that_is_too_long(self):
        """Between two points that are the same, a long function is called and ends."""
        for many, let in ((19996, True), (19997, False)):
            functions = steps_ahead(many - 1).functions
            functions["long"] = functions.pop("f")
            program = one(("set", "y", ("none",)), ("loop", YES, (("call", "y", "long", ()), ("pay", 1))), others=functions)
            # Set; loop, call, the long function, pay.
            if let:
                self.assertEqual(self.goes_on(program), ((), 1, 20000))
            else:
                self.assertRaises(TooLong, going_on, program, CALL)
                self.assertIs(always_ends(program, CALL), False)

    def test_the_ring_that_is_short_enough(self):
        functions = steps_ahead(9000).functions
        functions["long"] = functions.pop("f")
        long = ("call", "y", "long", ())
        program = one(ASK, ("set", "y", ("none",)), ("if", SAME, (("loop", YES, (long, long, long)),), (
            long, long, ("loop", YES, ()))), others=functions)
        answers, low, high = self.goes_on(program)
        self.assertEqual((answers, high - low), (("b",), 1))

    def test_a_ring_that_is_too_long_of_parts_that_are_not(self):
        """Each part of the ring is met by a run that is short enough; the whole ring is not."""
        long = ("call", "y", "long", ())
        for many, let in ((3000, True), (6000, False)):
            functions = steps_ahead(many).functions
            functions["long"] = functions.pop("f")
            program = one(long, long, *tour((long,), (long,), ()), others=functions)
            if let:
                self.goes_on(program)
            else:
                self.assertRaises(TooLong, going_on, program, CALL)
                self.assertIs(always_ends(program, CALL), False)


class Longest(unittest.TestCase):
    def test_against_all_rows_of_answers(self):
        program = one(ASK, ("call", "y", "g", ("x",)), ("ask", "z", WORDS), ("try", (("call", "y", "g", ("z",)),), "y", (
            ("pay", 1), ("pay", 1))), ("return", "y"), others={"g": (("n",), 1, (
                ("if", ("same", "n", ("c",)), (("raise", ("oh",)),), ()), ASK, ("pay", 1),
                ("if", ("same", "n", "x"), (("pay", 3), ASK, ("return", "x")), (("pay", 2),))))})
        self.assertEqual(longest(program, CALL), Search(program, CALL).longest())
        self.assertEqual(longest(program, CALL), 20)

    def test_more_than_20000(self):
        self.assertEqual(longest(steps_ahead(20001), CALL), 20002)

    def test_great_numbers(self):
        """Each of twelve functions calls the next one twelve times."""
        names = "fghijklmnopq"
        functions = {name: ((), 1, (("call", "x", lower, ()),) * 12) for name, lower in zip(names, names[1:])}
        functions["q"] = ((), 1, ())
        program = one(others=functions)
        steps = 1
        for _ in names[1:]:
            steps = 12 * (1 + steps) + 1
        self.assertEqual(longest(program, CALL), steps)


class Judged(unittest.TestCase):
    def right(self, program, paper, call=CALL):
        self.assertIs(is_going_on(program, call, paper), True)

    def wrong(self, program, paper, call=CALL):
        self.assertIs(is_going_on(program, call, paper), False)

    def papers(self, program, answers, most=16):
        """All pairs that make a paper with the answers."""
        return [(low, high) for low in range(-1, most) for high in range(-1, most)
                if is_going_on(program, CALL, (answers, low, high))]

    def test_numbers_of_steps(self):
        # Ask, if, pay, call; ask, if, pay, call; then it asks again.
        self.assertEqual(self.papers(COIN, ("yes",)), [(0, 4)])
        self.assertEqual(self.papers(COIN, ("yes", "yes")), [(0, 8), (1, 5), (2, 6), (3, 7), (4, 8)])
        self.assertEqual(self.papers(COIN, ("yes", "no")), [])
        self.assertEqual(self.papers(COIN, ()), [])
        for low, high in ((4, 0), (0, 0), (4, 4), (0, 10 ** 29), (-10 ** 29, 4), (0, 20000), (0, 20001), (-4, 4)):
            self.wrong(COIN, (("yes",), low, high))

    def test_20000_steps(self):
        for low, high, holds in ((0, 20000, True), (19999, 20000, True), (0, 20001, False), (20000, 20001, False),
                                 (0, 1, True), (5, 5, False), (6, 5, False)):
            self.assertIs(is_going_on(FOREVER, CALL, ((), low, high)), holds)

    def test_flags(self):
        self.right(FOREVER, ((), 0, 1))
        self.right(FOREVER, ((), 1, 2))
        for low, high in ((False, 1), (0, True), (False, True), (True, 2)):
            self.wrong(FOREVER, ((), low, high))

    def test_forms(self):
        for paper in ([("yes",), 0, 4], (["yes"], 0, 4), (("yes",), 0), (("yes",), 0, 4, 4), ("yes", 0, 4),
                      (("yes",), "0", 4), (("yes",), 0, None), (("yes",), (0, 4)), (None, 0, 4), ({"yes": "yes"}, 0, 4)):
            self.wrong(COIN, paper)
        for answers in ([], {}, "", None, 0):
            self.wrong(FOREVER, (answers, 0, 1))

    def test_answers(self):
        for answers in ((), ("no",), ("yes", "yes"), ("yes", "no"), ("yes", None), ("maybe",), (None,), (("yes",),),
                        (["yes"],), (True,)):
            self.wrong(COIN, (answers, 0, 4))
        for answers in (("a",), (None,), ("a", "b")):
            self.wrong(FOREVER, (answers, 0, 1))

    def test_a_run_that_has_ended(self):
        # Ask, if, return.
        for high in range(1, 8):
            for low in range(high):
                self.wrong(COIN, (("no",), low, high))
        # Call, end place, call, end place, end place.
        program = one(("call", "y", "g", ()), ("call", "y", "g", ()), others={"g": ((), 1, ())})
        self.assertEqual(self.papers(program, ()), [])

    def test_a_frame_that_ends_between(self):
        program = one(("set", "y", ("none",)), ("loop", YES, (("call", "y", "g", ()),)), others={"g": ((), 1, (("pay", 1),))})
        # Set; loop, call, pay, end place; and again.
        told = self.papers(program, (), 12)
        self.assertEqual(told, [(1, 5), (1, 9), (2, 6), (2, 10), (5, 9), (6, 10)])

    def test_points_that_differ(self):
        program = one(("loop", YES, (ASK, ("share", "s", "x"))), shared={"s": "w"})
        call = ("f", (), ("w",))
        self.wrong(program, (("a",), 0, 3), call)
        self.right(program, (("a", "a"), 3, 6), call)
        self.wrong(program, (("a", "b"), 3, 6), call)

    def test_odd_objects(self):
        for thing in odd_objects():
            for paper in (thing, (thing, 0, 4), ((thing,), 0, 4), (("yes",), 0, thing), (("yes", thing), 0, 4)):
                self.wrong(COIN, paper)
            if thing != 0 or isinstance(thing, bool):
                self.wrong(COIN, (("yes",), thing, 4))

    def test_calls_that_are_none(self):
        for thing in odd_objects():
            self.wrong(COIN, (("yes",), 0, 4), thing)


if __name__ == "__main__":
    unittest.main()
