"""Runs, forwards and back (3.3 to 3.6)."""

import unittest

from everyend.errors import BadAnswer, BadAnswers, BadCall, BadNumber, HasEnded, TooLong
from everyend.runs import Run, ran
from tests.samples import COIN, RICH, WORD, odd_objects, one

CALL = ("f", (), ())
DONE = ("value", "done", ())
YES = ("same", ("a",), ("a",))
FOREVER = one(("loop", YES, ()))
DEEPER = one(("pay", 1), ("call", "x", "f", ()))
NONE = ("value", "none", ())


def state(run):
    return (run.frames, run.end, run.price, run.steps, run.asks())


def steps_ahead(many, *tail):
    """A program of which f does so many steps, at least 5 and at most 22000, ahead of this tail."""
    functions = {"p": ((), 1, (("pay", 0),) * 11)}
    # Steps of a call: the call, those of the block, the end place.
    sizes = {"p": 13, "q": 12 * 13 + 2, "r": 12 * (12 * 13 + 2) + 2}
    for lower, name in ("pq", "qr"):
        functions[name] = ((), 1, (("call", "x", lower, ()),) * 12)
    rest, groups = many - 4, []
    for name in "rqp":
        groups.append((("call", "x", name, ()),) * (rest // sizes[name]))
        rest %= sizes[name]
    groups.append((("pay", 0),) * rest)
    return one(*[("if", YES, group, ()) for group in groups], *tail, others=functions)


class Steps(unittest.TestCase):
    def test_begin(self):
        run = Run(COIN, CALL)
        self.assertEqual(state(run), ((("f", 0, (), ()),), None, 0, 0, ("no", "yes")))

    def test_bad_call(self):
        for thing in [*odd_objects(), ("f", [], ()), ("f", ("a",), ()), ("g", (), ()), ("f", (), ("a",))]:
            with self.assertRaises(BadCall):
                Run(COIN, thing)
            with self.assertRaises(BadCall):
                ran(COIN, thing, None)

    def test_a_whole_run(self):
        run = Run(COIN, CALL)
        x = (("x", "yes"),)
        low = ("f", 3, x, ())
        no = (("x", "no"),)
        told = []
        for answer in ("yes", None, None, None, "no", None, None, None):
            told.append((run.asks(), run.step(answer), run.frames))
        self.assertEqual(told, [
            (("no", "yes"), 0, (("f", 1, x, ()),)),
            (None, 0, (("f", 2, x, ()),)),
            (None, 2, (low,)),
            (None, 0, (low, ("f", 0, (), ()))),
            (("no", "yes"), 0, (low, ("f", 1, no, ()))),
            (None, 0, (low, ("f", 4, no, ()))),
            (None, 0, (("f", 4, (("x", "yes"), ("y", "done")), ()),)),
            (None, 0, ())])
        self.assertEqual(state(run), ((), DONE, 2, 8, None))

    def test_wrong_answers_change_nothing(self):
        run = Run(COIN, CALL)
        for thing in [*odd_objects(), "maybe", ("yes",), ["no"], 0]:
            with self.assertRaises(BadAnswer):
                run.step(thing)
            self.assertEqual(state(run), ((("f", 0, (), ()),), None, 0, 0, ("no", "yes")))
        run.step("yes")
        told = state(run)
        for thing in [*odd_objects(), "yes", "no"]:
            if thing is not None:
                with self.assertRaises(BadAnswer):
                    run.step(thing)
                self.assertEqual(state(run), told)

    def test_ended(self):
        run = Run(WORD, ("f", ("oh",), ()))
        self.assertEqual(run.step(None), 0)
        told = state(run)
        self.assertEqual(told, ((), ("error", "oh", ()), 0, 1, None))
        for answer in (None, "a", 5, []):
            with self.assertRaises(HasEnded):
                run.step(answer)
            self.assertEqual(state(run), told)

    def test_an_error_through_several_frames_in_one_step(self):
        program = one(("try", (("call", "x", "g", ()),), "y", (("return", "y"),)), shared={"s": "a"}, others={
            "g": ((), 1, (("call", "x", "h", ()), ("pay", 1))),
            "h": ((), 1, (("try", (), "x", (("pay", 1),)), ("call", "x", "i", ()))),
            "i": ((), 1, (("share", "s", ("b",)), ("raise", ("oh",))))})
        run = Run(program, ("f", (), ("a",)))
        while run.frames[-1][:2] != ("i", 1):
            run.step(None)
        self.assertEqual([point[0] for point in run.frames], ["f", "g", "h", "i"])
        self.assertEqual([point[3] for point in run.frames], [("a",), ("a",), ("a",), ("b",)])
        before = state(run)
        self.assertEqual(run.step(None), 0)
        self.assertEqual(run.frames, (("f", 2, (("y", "oh"),), ("b",)),))
        run.back(1)
        self.assertEqual(state(run), before)
        run.step(None)
        run.step(None)
        self.assertEqual(run.end, ("value", "oh", ("b",)))

    def test_an_error_ends_all_frames(self):
        program = one(("call", "x", "g", ()), ("pay", 1), others={"g": ((), 1, (("pay", 3), ("raise", ("oh",))))})
        run = Run(program, CALL)
        self.assertEqual([run.step(None) for _ in range(3)], [0, 3, 0])
        self.assertEqual(state(run), ((), ("error", "oh", ()), 3, 3, None))

    def test_shared_values_go_from_frame_to_frame(self):
        program = one(("share", "s", ("b",)), ("call", "x", "g", ()), ("return", "s"), shared={"s": "a"}, others={
            "g": ((), 1, (("set", "y", "s"), ("share", "s", ("c",)), ("return", "y")))})
        run = Run(program, ("f", (), ("a",)))
        run.to("g", 2, 10)
        self.assertEqual(run.frames, (("f", 1, (), ("b",)), ("g", 2, (("y", "b"),), ("c",))))
        run.step(None)
        self.assertEqual(run.frames, (("f", 2, (("x", "b"),), ("c",)),))
        run.step(None)
        self.assertEqual(run.end, ("value", "c", ("c",)))

    def test_the_x_of_each_calling_statement(self):
        for statement in (("call", "x", "f", (("a",), ("b",))), ("apply", "x", "k", (("b",),)),
                          ("send", "x", "c", "see", ())):
            functions = RICH.functions
            functions["t"] = (("c", "k"), 1, (statement, ("return", "x")))
            program = type(RICH)(RICH.shared, RICH.classes, functions)
            arguments = (("thing", "cell", ("a",)), ("kept", "f", ("a",)))
            self.assertEqual(ran(program, ("t", arguments, ("l", "t")), [])[0], ("value", "a", ("l", "t")))


class Backwards(unittest.TestCase):
    def test_wrong_numbers(self):
        run = Run(COIN, CALL)
        for thing in [*odd_objects(), 2, "1"]:
            with self.assertRaises(BadNumber):
                run.back(thing)
        run.step("yes")
        run.step(None)
        told = state(run)
        for thing in [0, -1, 3, True, None, "1", (1,), 10 ** 25, [], COIN]:
            with self.assertRaises(BadNumber):
                run.back(thing)
            self.assertEqual(state(run), told)

    def test_over_any_number(self):
        answers = ("yes", None, None, None, "no", None, None, None)
        run = Run(COIN, CALL)
        states = [state(run)]
        for answer in answers:
            run.step(answer)
            states.append(state(run))
        for high in range(1, 9):
            for low in range(high):
                run = Run(COIN, CALL)
                for answer in answers[:high]:
                    run.step(answer)
                self.assertIsNone(run.back(high - low))
                self.assertEqual(state(run), states[low])
                for answer in answers[low:]:
                    run.step(answer)
                self.assertEqual(state(run), states[8])

    def test_another_way_on(self):
        run = Run(COIN, CALL)
        run.step("yes")
        run.back(1)
        run.step("no")
        self.assertEqual((run.to("f", 9, 100), run.end, run.price, run.steps), (False, DONE, 0, 3))


class To(unittest.TestCase):
    def test_until_it_is_there(self):
        run = Run(COIN, CALL)
        self.assertIs(run.to("f", 0, 0), True)
        self.assertIs(run.to("f", 0, 5), True)
        self.assertEqual(run.steps, 0)
        run.step("yes")
        self.assertIs(run.to("f", 3, 1), False)
        self.assertEqual(run.steps, 2)
        self.assertIs(run.to("f", 3, 1), True)
        self.assertIs(run.to("f", 0, 10), True)
        self.assertEqual((run.steps, len(run.frames)), (4, 2))

    def test_stops_where_it_asks(self):
        run = Run(COIN, CALL)
        self.assertIs(run.to("f", 4, 10), False)
        self.assertEqual(run.steps, 0)
        run.step("yes")
        self.assertIs(run.to("f", 4, 10000), False)
        self.assertEqual((run.steps, run.asks()), (4, ("no", "yes")))

    def test_stops_at_the_end(self):
        run = Run(COIN, CALL)
        run.step("no")
        self.assertIs(run.to("f", 2, 10000), False)
        self.assertEqual((run.steps, run.end), (3, DONE))
        self.assertIs(run.to("f", 4, 10), False)
        self.assertIs(run.to("f", 0, 0), False)

    def test_never_met(self):
        for function, place in (("g", 0), ("f", 9), ("f", -1), ("f", True), ("f", False), ("G", 0)):
            run = Run(DEEPER, CALL)
            self.assertIs(run.to(function, place, 20), False)
            self.assertEqual(run.steps, 20)

    def test_limits(self):
        run = Run(FOREVER, CALL)
        self.assertIs(run.to("f", 1, 0), False)
        self.assertEqual(run.steps, 0)
        self.assertIs(run.to("f", 1, 10000), False)
        self.assertEqual(run.steps, 10000)
        for thing in [*odd_objects(), 10001]:
            if isinstance(thing, bool) or thing not in (0, 1):
                with self.assertRaises(BadNumber):
                    run.to("f", 0, thing)
        self.assertEqual(run.steps, 10000)
        ended = Run(WORD, ("f", ("a",), ()))
        ended.step(None)
        with self.assertRaises(BadNumber):
            ended.to("f", 0, -1)

    def test_the_top_frame_counts(self):
        run = Run(DEEPER, CALL)
        self.assertIs(run.to("f", 1, 5), True)
        run.step(None)
        self.assertEqual([point[1] for point in run.frames], [1, 0])
        self.assertIs(run.to("f", 1, 0), False)


class Copies(unittest.TestCase):
    def test_both_go_on_apart(self):
        run = Run(COIN, CALL)
        run.step("yes")
        run.step(None)
        run.step(None)
        other = run.copy()
        self.assertIsInstance(other, Run)
        told = state(run)
        self.assertEqual(state(other), told)
        run.step(None)
        self.assertEqual(state(other), told)
        other.back(3)
        self.assertEqual(state(other), state(Run(COIN, CALL)))
        self.assertEqual(run.steps, 4)
        other.step("no")
        run.back(1)
        self.assertEqual(state(run), told)
        self.assertEqual(other.frames, (("f", 1, (("x", "no"),), ()),))
        run.back(3)
        self.assertEqual(other.steps, 1)

    def test_copies_of_ended_runs(self):
        run = Run(WORD, ("f", ("a",), ()))
        run.step(None)
        other = run.copy()
        run.back(1)
        self.assertEqual((run.end, other.end), (None, ("error", "a", ())))
        with self.assertRaises(HasEnded):
            other.step(None)


class Ran(unittest.TestCase):
    def test_e03(self):
        self.assertEqual(ran(COIN, CALL, ["yes", "no"]), (DONE, 2, 8))
        self.assertEqual(ran(COIN, CALL, ("no",)), (DONE, 0, 3))

    def test_wrong_answers(self):
        for answers, index in (([], 0), (("yes",), 1), (["yes", "yes"], 2), (["maybe"], 0), (["yes", "maybe", "no"], 1),
                               (["no", "no"], 1), (["no", None], 1), (["yes", "no", "a", "b"], 2), ([None], 0),
                               (["yes", ("no",)], 1), ([["no"]], 0), ([COIN], 0), ((True,), 0)):
            with self.assertRaises(BadAnswers) as caught:
                ran(COIN, CALL, answers)
            self.assertEqual(caught.exception.index, index)

    def test_no_row(self):
        for thing in [*odd_objects(), "no", {"no": "no"}]:
            index = 0 if isinstance(thing, (list, tuple)) else -1
            with self.assertRaises(BadAnswers) as caught:
                ran(COIN, CALL, thing)
            self.assertEqual(caught.exception.index, index)

    def test_answers_are_not_changed(self):
        answers = ["yes", "no"]
        ran(COIN, CALL, answers)
        self.assertEqual(answers, ["yes", "no"])

    def test_too_long(self):
        with self.assertRaises(TooLong):
            ran(FOREVER, CALL, [])
        with self.assertRaises(TooLong):
            ran(FOREVER, CALL, ["a"])
        with self.assertRaises(TooLong):
            ran(DEEPER, CALL, ())

    def test_20000_steps_and_one_more(self):
        # The end place takes one step more.
        for many in (5, 1000, 19998, 19999):
            self.assertEqual(ran(steps_ahead(many), CALL, []), (NONE, 0, many + 1))
        for many in (20000, 20001):
            with self.assertRaises(TooLong):
                ran(steps_ahead(many), CALL, [])

    def test_an_answer_too_many_behind_20000_steps(self):
        with self.assertRaises(BadAnswers) as caught:
            ran(steps_ahead(19999), CALL, ["a"])
        self.assertEqual(caught.exception.index, 0)
        with self.assertRaises(TooLong):
            ran(steps_ahead(20000), CALL, ["a"])

    def test_an_ask_behind_20000_steps(self):
        ask = ("ask", "x", ("a", "b"))
        self.assertEqual(ran(steps_ahead(19998, ask), CALL, ["b"]), (NONE, 0, 20000))
        # Behind 19999 steps the ask is the last step that can be done, behind 20000 it is not looked at.
        for many, answers, error in ((19999, [], BadAnswers), (19999, ["c"], BadAnswers), (19999, ["a"], TooLong),
                                     (20000, [], TooLong), (20000, ["c"], TooLong), (20000, ["a"], TooLong)):
            with self.assertRaises(error):
                ran(steps_ahead(many, ask), CALL, answers)

    def test_many_frames(self):
        program = one(("try", (("call", "x", "g", ()),), "x", ()), others={
            "g": ((), 1, (("ask", "x", ("go", "no")), ("if", ("same", "x", ("no",)), (("raise", ("oh",)),), ()),
                          ("call", "x", "g", ())))})
        answers = ["go"] * 299 + ["no"]
        self.assertEqual(ran(program, CALL, answers), (NONE, 0, 2 + 299 * 3 + 3 + 1))


if __name__ == "__main__":
    unittest.main()
