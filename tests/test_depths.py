"""How many frames runs must have, and how many they can have (8.1)."""

import unittest

from everyend.depths import deepest, depth, shallow
from everyend.errors import BadCall, BadEnd, NeverComes, TooLong, TooMany
from everyend.exploring import ends
from everyend.papers import fewest_steps
from everyend.plain import plain
from everyend.programs import Program
from everyend.runs import Run
from tests.samples import COIN, WORD, odd_objects, one
from tests.searcher import within
from tests.small import Small
from tests.steep import Steep
from tests.test_exploring import CALL, DONE, NONE, YES, crowd
from tests.test_runs import steps_ahead

ASK = ("ask", "x", ("a", "b"))
SAME = ("same", "x", ("a",))
DIGITS = "abcdefghij"


def done(program, call, answers):
    """The end, the greatest number of frames and the number of steps of the run by these answers."""
    run, left, most = Run(program, call), list(answers), 1
    while run.end is None:
        run.step(left.pop(0) if run.asks() else None)
        most = max(most, len(run.frames))
    assert not left
    return run.end, most, run.steps


def counting(last):
    """A function of one digit that calls itself with the next one, up to the last one, and then returns."""
    turns = tuple(("if", ("same", "n", (now,)), (("call", "n", "f", ((then,),)), ("return", "n")), ())
                  for now, then in zip(DIGITS, DIGITS[1:last]))
    return one(*turns, ("return", ("done",)), parameters=("n",))


def next_digit(name):
    """Statements that give the local the digit behind its digit, if that is not the last one."""
    return tuple(("if", ("same", name, (now,)), (("set", name, (then,)),), ())
                 for now, then in list(zip(DIGITS, DIGITS[1:]))[::-1])


def chained(many, last):
    """Functions c0, c1, .. (in letters) of which each calls the next one; the last one has these statements."""
    names = ["c" + letter for letter in DIGITS[:many]]
    functions = {name: ((), 1, (("call", "y", then, ()), ("return", "y"))) for name, then in zip(names, names[1:])}
    return {**functions, names[-1]: ((), 1, last)}


class Depths(unittest.TestCase):
    def told(self, program, end, frames, steps, call=CALL):
        self.assertEqual(depth(program, call, end), frames)
        self.assertEqual(done(program, call, shallow(program, call, end)), (end, frames, steps))

    def test_e09(self):
        self.assertEqual(depth(COIN, CALL, DONE), 1)
        self.assertIsNone(deepest(COIN, CALL))

    def test_one_frame(self):
        self.told(WORD, ("error", "a", ()), 1, 1, ("f", ("a",), ()))
        self.told(one(), NONE, 1, 1)
        self.told(one(ASK, ("if", SAME, (("pay", 1),), (("pay", 1), ("pay", 1)))), NONE, 1, 4)

    def test_recursion_of_depth_1_2_and_many(self):
        for last in range(1, 11):
            self.told(counting(last), ("value", "done", ()), last, (last - 1) * (last + 4) // 2 + last, ("f", ("a",), ()))
            self.assertEqual(deepest(counting(last), ("f", ("a",), ())), last)
        # Two digits: each call counts on, so that the hundredth frame returns.
        turn = ("if", ("same", "b", ("j",)), (("return", ("done",)),), next_digit("b"))
        count = ("if", ("same", "a", ("j",)), (("set", "a", ("a",)), turn), next_digit("a"))
        program = one(count, ("call", "x", "f", ("a", "b")), ("return", "x"), parameters=("a", "b"))
        call = ("f", ("a", "a"), ())
        self.assertEqual(depth(program, call, DONE), 100)
        self.assertEqual(shallow(program, call, DONE), ())
        self.assertEqual(done(program, call, ())[:2], (DONE, 100))
        self.assertEqual(deepest(program, call), 100)

    def test_a_shallower_run_is_longer(self):
        program = one(ASK, ("if", SAME, (("pay", 0),) * 9, (("call", "y", "g", ()),)), others={"g": ((), 1, ())})
        self.told(program, NONE, 1, 12)
        self.assertEqual(fewest_steps(program, CALL, NONE), 5)
        self.assertEqual(shallow(program, CALL, NONE), ("a",))
        self.assertEqual(deepest(program, CALL), 2)

    def test_a_shallower_run_is_shorter(self):
        program = one(ASK, ("if", SAME, (("pay", 0),), (("call", "y", "g", ()),)), others={"g": ((), 1, ())})
        self.told(program, NONE, 1, 4)
        self.assertEqual(shallow(program, CALL, NONE), ("a",))

    def test_the_fewest_steps_of_all_runs_of_the_depth(self):
        others = {"g": ((), 1, (ASK, ("if", SAME, (("pay", 0),) * 5, ()))), **chained(3, ())}
        program = one(("call", "y", "g", ()), others=others)
        self.told(program, NONE, 2, 5)
        # A deeper run would be shorter; ahead of what must be deep, depth costs nothing.
        ask = ("if", SAME, (("pay", 0),) * 11, (("call", "y", "cb", ()),))
        self.told(one(ASK, ask, others=others), NONE, 1, 14)
        self.told(one(ASK, ask, ("call", "z", "ca", ()), others=others), NONE, 4, 13)
        self.told(one(("call", "z", "cb", ()), ASK, ask, others=others), NONE, 3, 11)
        self.told(one(("call", "z", "cc", ()), ASK, ask, others=others), NONE, 2, 16)

    def test_errors_that_are_caught_below_or_go_through_frames(self):
        oh = chained(3, (("raise", ("oh",)),))
        self.told(one(("call", "y", "ca", ()), others=oh), ("error", "oh", ()), 4, 4)
        self.told(one(("try", (("call", "y", "ca", ()),), "z", (("return", "z"),)), others=oh), ("value", "oh", ()), 4, 6)
        # The other way to the error has fewer frames.
        program = one(ASK, ("if", SAME, (("call", "y", "ca", ()),), (("call", "y", "cb", ()), ("pay", 1))), others=oh)
        self.told(program, ("error", "oh", ()), 3, 5)
        caught = {**oh, "ca": ((), 1, (("try", (("call", "y", "cb", ()),), "z", (("call", "y", "cc", ()),)),))}
        self.told(one(("call", "y", "ca", ()), others=caught), ("error", "oh", ()), 4, 7)

    def test_loops(self):
        """Around the loop the runs go deep, but need not."""
        loop = ("loop", SAME, (("call", "y", "ca", ()), ASK))
        self.told(one(ASK, loop, ("return", "x"), others=chained(4, ())), ("value", "b", ()), 1, 3)
        forced = one(ASK, ("call", "y", "cd", ()), loop, ("if", ("same", "y", ("n",)), (("raise", "y"),), ()),
                     others=chained(4, (("return", ("n",)),)))
        self.told(forced, ("error", "n", ()), 2, 6)
        self.assertEqual(deepest(forced, CALL), 5)

    def test_calls_that_come_back_in_several_ways(self):
        """What is shorter behind the call is longer in it, and in all."""
        for inner, behind, answer, steps in ((6, 3, "b", 9), (1, 5, "a", 8), (2, 3, "b", 9), (1, 3, "a", 8)):
            program = one(("call", "x", "g", ()), ("if", SAME, (("pay", 0),), (("pay", 0),) * behind), others={
                "g": ((), 1, (ASK, ("if", SAME, (("pay", 0),) * inner, ()), ("return", "x")))})
            self.told(program, NONE, 2, steps)
            self.assertEqual(shallow(program, CALL, NONE), (answer,))

    def test_lasts(self):
        program = one(("last", (ASK, ("call", "y", "g", ("x",))), (("call", "y", "cb", ()),)), others={
            "g": (("n",), 1, (("if", ("same", "n", ("a",)), (("raise", "n"),), ()),)), **chained(3, ())})
        for end, frames, steps in ((("error", "a", ()), 3, 10), (NONE, 3, 10)):
            self.told(program, end, frames, steps)
            self.told(plain(program), end, frames, steps)
        self.assertEqual(deepest(program, CALL), 3)

    def test_against_all_runs(self):
        """All rows of answers are searched, by runs of at most so many frames."""
        seen = {"deeper is shorter": 0, "deep": 0}
        for small in [Small(seed) for seed in range(300)] + [Steep(seed) for seed in range(400)]:
            program, call = small.program, small.call
            for end in ends(program, call):
                frames = depth(program, call, end)
                told, most, steps = done(program, call, shallow(program, call, end))
                self.assertEqual((told, most), (end, frames))
                found = within(program, call, frames)
                if found is not None:
                    self.assertEqual(found[0][end], steps)
                    seen["deep"] += frames > 2
                if frames > 1 and within(program, call, frames - 1) is not None:
                    self.assertNotIn(end, within(program, call, frames - 1)[0])
                seen["deeper is shorter"] += fewest_steps(program, call, end) < steps
        self.assertGreater(min(seen.values()), 20)

    def test_errors_in_order(self):
        crowded = crowd(9)
        for told in (depth, shallow):
            for thing in odd_objects():
                self.assertRaises(BadCall, told, crowded, thing, None)
                self.assertRaises(BadEnd, told, crowded, CALL, thing)
            for end in (NONE, DONE):
                with self.assertRaises(TooMany) as caught:
                    told(crowded, CALL, end)
                self.assertEqual(caught.exception.most, 3000)
            self.assertRaises(NeverComes, told, crowd(8), CALL, DONE)
            self.assertRaises(NeverComes, told, COIN, CALL, NONE)
            self.assertRaises(NeverComes, told, steps_ahead(20001), CALL, DONE)
            self.assertRaises(NeverComes, told, one(("call", "x", "f", ())), CALL, NONE)
        self.assertEqual(depth(crowd(8), CALL, NONE), 1)

    def test_20000_steps_and_more(self):
        program = steps_ahead(19999)
        self.told(program, NONE, 4, 20000)
        program = steps_ahead(20000)
        self.assertEqual(depth(program, CALL, NONE), 4)
        self.assertRaises(TooLong, shallow, program, CALL, NONE)

    def test_a_deeper_run_would_not_be_too_long(self):
        functions = steps_ahead(20000).functions
        functions["long"] = functions["f"]
        functions["f"] = ((), 1, (ASK, ("if", SAME, (("call", "y", "long", ()),), (("call", "y", "ca", ()),))))
        for many, frames in ((6, 5), (3, 4)):
            program = Program({}, {}, {**functions, **chained(many, ())})
            self.assertEqual(depth(program, CALL, NONE), frames)
            if many == 6:
                self.assertRaises(TooLong, shallow, program, CALL, NONE)
            else:
                self.assertEqual(shallow(program, CALL, NONE), ("b",))


class Deepest(unittest.TestCase):
    def test_calls_that_end(self):
        self.assertEqual(deepest(one(), CALL), 1)
        self.assertEqual(deepest(WORD, ("f", ("a",), ())), 1)
        self.assertEqual(deepest(one(("call", "y", "cb", ()), ("call", "y", "ca", ()), others=chained(4, ())), CALL), 5)
        self.assertEqual(deepest(one(("call", "y", "ca", ()), ("call", "y", "cb", ()), others=chained(4, ())), CALL), 5)
        self.assertEqual(deepest(one(("call", "y", "ca", ()), others=chained(4, (("raise", ("oh",)),))), CALL), 5)

    def test_for_ever_in_one_frame(self):
        self.assertEqual(deepest(one(("loop", YES, ())), CALL), 1)
        self.assertEqual(deepest(one(("loop", YES, (("call", "y", "ca", ()),)), others=chained(2, ())), CALL), 3)

    def test_as_deep_as_one_likes(self):
        self.assertIsNone(deepest(one(("call", "x", "f", ())), CALL))
        self.assertIsNone(deepest(COIN, CALL))
        mutual = {"g": ((), 1, (ASK, ("if", SAME, (("call", "x", "f", ()),), ())))}
        self.assertIsNone(deepest(one(("call", "x", "g", ()), others=mutual), CALL))
        self.assertIsNone(deepest(one(("call", "y", "g", ()), ("pay", 1), others={
            "g": ((), 1, (("try", (("call", "y", "g", ()),), "z", ()),))}), CALL))

    def test_frames_that_never_end_count(self):
        never = chained(3, (("loop", YES, ()),))
        self.assertEqual(deepest(one(("call", "x", "ca", ()), others=never), CALL), 4)

    def test_what_stands_behind_a_call_that_never_ends_does_not(self):
        never = {"g": ((), 1, (("loop", YES, ()),)), **chained(4, ())}
        self.assertEqual(deepest(one(("call", "x", "g", ()), ("call", "x", "ca", ()), others=never), CALL), 2)
        self.assertEqual(deepest(one(("call", "x", "g", ()), ("call", "x", "f", ()), others=never), CALL), 2)
        # It ends with an error alone: so what catches it is done, what stands behind it is not.
        oh = {"g": ((), 1, (("raise", ("oh",)),)), **chained(4, ())}
        self.assertEqual(deepest(one(("call", "x", "g", ()), ("call", "x", "ca", ()), others=oh), CALL), 2)
        caught = one(("try", (("call", "x", "g", ()), ("call", "x", "ca", ())), "z", (("call", "x", "cb", ()),)), others=oh)
        self.assertEqual(deepest(caught, CALL), 4)

    def test_what_is_called_tells_how_deep(self):
        """The same function, by arguments by which it goes deep and by others."""
        self.assertEqual([deepest(counting(10), ("f", (word,), ())) for word in "aeiz"], [10, 6, 2, 1])

    def test_against_all_runs(self):
        told = {}
        for small in [Small(seed) for seed in range(1000)] + [Steep(seed) for seed in range(100)]:
            found = within(small.program, small.call, 6)
            if found is not None:
                frames = deepest(small.program, small.call)
                if found[1] <= 6:
                    self.assertEqual(frames, found[1])
                else:
                    self.assertTrue(frames is None or frames > 6)
                told[frames] = told.get(frames, 0) + 1
        for frames in (None, 1, 2, 3, 4):
            self.assertGreater(told[frames], 1)

    def test_errors_in_order(self):
        for thing in odd_objects():
            self.assertRaises(BadCall, deepest, crowd(9), thing)
        with self.assertRaises(TooMany) as caught:
            deepest(crowd(9), CALL)
        self.assertEqual(caught.exception.most, 3000)
        self.assertEqual(deepest(crowd(8), CALL), 1)


if __name__ == "__main__":
    unittest.main()
