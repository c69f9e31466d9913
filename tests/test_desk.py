"""The desk (13.1, 13.2)."""

import random
import unittest

from everyend.desk import Desk
from everyend.errors import (BadAnswer, BadCall, BadProgram, BadText, EndError, HasEnded, NoLine, NoName, NoRun,
                             NothingDone, TooMany)
from everyend.goingon import always_ends
from everyend.plain import plain
from everyend.points import begin_call
from everyend.prices import greatest, least
from everyend.programs import Program
from everyend.runs import Run
from everyend.texts import program_text
from tests.everything import WHOLE
from tests.samples import COIN, RICH, WORD, odd_objects, one
from tests.small import Small
from tests.test_exploring import YES, crowd

ASK = ("ask", "x", ("a", "b"))
SHARING = one(ASK, ("share", "s", "x"), ("push", "r", ("none",), "x"), ("share", "t", "r"), ASK, ("raise", "x"),
              shared={"s": "w", "t": "v", "u": "u"})
DEEP = Program({}, {"box": (None, 2, ("in", "by"), {})}, {
    "f": (("b", "a"), 2, (("keep", "k", "f", ("a",)), ("new", "t", "box", ("a", "b")), ("call", "r", "g", ("t",)))),
    "g": (("n",), 1, (ASK, ("return", "n")))})


def line_of(name, program):
    return f"program {name} " + program_text(program).replace("\n", "|")


def desk_with(*lines, **programs):
    """A desk with these programs, behind these lines."""
    desk = Desk()
    for name, program in programs.items():
        desk.tell(line_of(name, program))
    for line in lines:
        desk.tell(line)
    return desk


def state(desk):
    """All that can be seen of a desk."""
    names = desk.tell("names")
    told = [names, desk.tell("look"), desk.undoable()]
    try:
        told.append(desk.tell("price"))
    except NoRun:
        told.append(None)
    return (*told, *[program_text(desk.kept(name)) for name in names.split(" ") if names != "none"])


class Lines(unittest.TestCase):
    def refused(self, desk, line, error, /, **kept):
        """The line has this error, also if it is only asked for, and changes nothing."""
        before = state(desk)
        for told in (desk.would, desk.tell):
            with self.assertRaises(error, msg=line) as caught:
                told(line)
            self.assertIs(type(caught.exception), error)
            self.assertEqual(vars(caught.exception), kept)
        self.assertEqual(state(desk), before)

    def told(self, desk, line, answer):
        self.assertEqual(desk.would(line), answer)
        self.assertEqual(desk.tell(line), answer)

    def test_a_new_desk(self):
        desk = Desk()
        self.assertEqual(desk.undoable(), 0)
        self.told(desk, "names", "none")
        self.told(desk, "look", "none")
        for line in ("price", "give a", "go"):
            self.refused(desk, line, NoRun)
        self.refused(desk, "undo", NothingDone)
        self.refused(desk, "drop a", NoName, name="a")

    def test_programs(self):
        desk = Desk()
        self.told(desk, line_of("coin", COIN), "ok")
        self.assertEqual(desk.kept("coin"), COIN)
        self.told(desk, "program a function f 1|", "ok")
        self.assertEqual(desk.kept("a"), one())
        self.told(desk, line_of("whole", WHOLE), "ok")
        self.assertEqual(desk.kept("whole"), WHOLE)
        self.told(desk, "names", "a coin whole")
        self.told(desk, line_of("coin", WORD), "ok")
        self.assertEqual(desk.kept("coin"), WORD)
        self.told(desk, "drop coin", "ok")
        self.told(desk, "names", "a whole")
        self.refused(desk, "drop coin", NoName, name="coin")
        self.assertEqual(desk.undoable(), 5)

    def test_names_of_lines_are_names_of_programs_too(self):
        desk = Desk()
        for name in ("program", "names", "none", "undo"):
            self.told(desk, f"program {name} function go 1|", "ok")
        self.told(desk, "names", "names none program undo")
        self.told(desk, "call program go", "ok")
        self.told(desk, "settles names go", "yes")

    def test_texts_with_errors(self):
        desk = desk_with(a=COIN)
        for text, line in (("function", 1), ("x", 1), (" ", 1), ("|", 1), (" function f 1|", 1), ("function f 1", 1),
                           ("function f 1 |", 1), ("function f 1|  pay 10|", 2), ("function f 1|  try|", 3),
                           ("function f 1|x", 2), ("function f 1||", 2), ("function f 1|  pay 1| ", 3), ("||", 1)):
            self.refused(desk, f"program a {text}", BadText, line=line)
            self.refused(desk, f"program new {text}", BadText, line=line)
        self.refused(desk, "program a ", BadProgram, part="functions")
        self.refused(desk, "program a shared b c|", BadProgram, part="functions")
        self.refused(desk, "program a function f 1|  call x g|", BadProgram, part="block f")
        self.refused(desk, "program a class word 1 -|function f 1|", BadProgram, part="classes")

    def test_calls(self):
        desk = desk_with(word=WORD, coin=COIN, rich=RICH)
        for line in ("call", "settles", "ends"):
            self.refused(desk, f"{line} none f", NoName, name="none")
            self.refused(desk, f"{line} none g a b c", NoName, name="none")
            self.refused(desk, f"{line} word g", NoName, name="g")
            self.refused(desk, f"{line} word word a b c", NoName, name="word")
            self.refused(desk, f"{line} word f", BadCall)
            self.refused(desk, f"{line} word f a b", BadCall)
            self.refused(desk, f"{line} coin f a", BadCall)
        self.assertEqual(desk.undoable(), 3)
        self.told(desk, "call word f a", "ok")
        self.told(desk, "look", "f 0 a=a")
        self.told(desk, "call rich h x y z", "ok")
        self.told(desk, "look", "h 0 a=x b=y c=z")
        self.told(desk, "call coin f", "ok")
        self.told(desk, "look", "f 0 ? no yes")

    def test_steps(self):
        desk = desk_with("call coin f", coin=COIN)
        self.told(desk, "go", "ok")
        self.told(desk, "look", "f 0 ? no yes")
        for word in ("maybe", "x", "none"):
            self.refused(desk, f"give {word}", BadAnswer)
        self.told(desk, "give yes", "ok")
        self.told(desk, "look", "f 1 x=yes")
        self.told(desk, "price", "0")
        # Nothing is asked now.
        self.refused(desk, "give yes", BadAnswer)
        self.told(desk, "go", "ok")
        self.told(desk, "look", "f 3 x=yes / f 0 ? no yes")
        self.told(desk, "price", "2")
        self.told(desk, "give yes", "ok")
        self.told(desk, "go", "ok")
        self.told(desk, "look", "f 3 x=yes / f 3 x=yes / f 0 ? no yes")
        self.told(desk, "price", "4")
        self.told(desk, "give no", "ok")
        self.told(desk, "go", "ok")
        self.told(desk, "look", "ended value done")
        self.told(desk, "price", "4")
        self.told(desk, "go", "ok")
        self.told(desk, "look", "ended value done")
        for word in ("yes", "x"):
            self.refused(desk, f"give {word}", HasEnded)

    def test_go_does_2000_steps(self):
        desk = desk_with("call a f", a=one(("loop", YES, (("pay", 1),))))
        for many in range(1, 4):
            self.told(desk, "go", "ok")
            self.told(desk, "price", str(1000 * many))
            self.told(desk, "look", "f 0")
        self.told(desk, "undo", "ok")
        self.told(desk, "price", "2000")
        desk = desk_with("call a f", "go", a=one(("pay", 1), ("call", "x", "f", ())))
        self.told(desk, "price", "1000")
        self.told(desk, "look", " / ".join(["f 1"] * 1000 + ["f 0"]))

    def test_look(self):
        desk = desk_with("call a f p q", a=DEEP)
        self.told(desk, "look", "f 0 a=q b=p")
        self.told(desk, "go", "ok")
        self.told(desk, "look", "f 2 a=q b=p k=f<q> t=box(q, p) / g 0 n=box(q, p) ? a b")
        self.told(desk, "give b", "ok")
        self.told(desk, "look", "f 2 a=q b=p k=f<q> t=box(q, p) / g 1 n=box(q, p) x=b")
        desk = desk_with("call a f", a=SHARING)
        self.told(desk, "look", "f 0 ? a b")
        desk.tell("give a")
        desk.tell("go")
        self.told(desk, "look", "f 4 r=[a] x=a ? a b")

    def test_look_at_ends(self):
        desk = desk_with("call a f", "give a", "go", "give b", "go", a=SHARING)
        self.told(desk, "look", "ended error b; a; [a]; u")
        desk = desk_with("call a f", "go", a=one(shared={"b": "y", "a": "x"}))
        self.told(desk, "look", "ended value none; x; y")
        desk = desk_with("call a g a", "give a", "go", a=DEEP)
        self.told(desk, "look", "ended value a")
        desk = desk_with("call a f", "go", a=one(("push", "x", ("none",), ("w",)), ("push", "x", "x", ("v",)), ("return", "x")))
        self.told(desk, "look", "ended value [w v]")

    def test_lasts(self):
        """Places and locals are those of the plain program."""
        program = one(("last", (ASK, ("raise", "x")), (ASK,)))
        desk = desk_with("call a f", "go", "give a", "go", a=program)
        self.told(desk, "look", "f 3 x=a za=a ? a b")
        desk = desk_with("call a f", "go", "give a", "go", a=plain(program))
        self.told(desk, "look", "f 3 x=a za=a ? a b")
        self.told(desk, "ends a f", "error a (0 0) | error b (0 0)")

    def test_ends(self):
        desk = desk_with(coin=COIN, word=WORD, sharing=SHARING, deep=DEEP, never=one(("loop", YES, ())))
        self.told(desk, "ends coin f", "value done (0 -)")
        self.told(desk, "ends word f oh", "error oh (0 0)")
        self.told(desk, "ends never f", "none")
        self.told(desk, "ends deep f w v", "value none (0 0)")
        self.told(desk, "ends sharing f", "error a; a; [a]; u (0 0) | error a; b; [b]; u (0 0) | "
                                          "error b; a; [a]; u (0 0) | error b; b; [b]; u (0 0)")
        priced = one(ASK, ("if", ("same", "x", ("a",)), (("pay", 1), ("raise", ("oh",))), ()), ("pay", 7), ASK,
                     ("if", ("same", "x", ("a",)), (("pay", 9),), ()), ("push", "x", ("none",), ("w",)), ("return", "x"))
        desk = desk_with(a=priced)
        self.told(desk, "ends a f", "error oh (1 1) | value [w] (7 16)")
        self.assertEqual(desk.undoable(), 1)

    def test_settles(self):
        desk = desk_with(coin=COIN, word=WORD, never=one(("loop", YES, ())), part=one(
            ("loop", ("same", "a", ("a",)), ()), parameters=("a",)))
        for line, answer in (("coin f", "no"), ("word f a", "yes"), ("never f", "no"), ("part f a", "no"), ("part f b", "yes")):
            self.told(desk, f"settles {line}", answer)
        self.assertEqual(desk.undoable(), 4)

    def test_too_many(self):
        desk = desk_with(a=crowd(9), b=crowd(8))
        for line in ("ends a f", "settles a f"):
            self.refused(desk, line, TooMany, most=3000)
        self.told(desk, "ends b f", "value none (0 0)")
        self.told(desk, "settles b f", "yes")
        self.told(desk, "call a f", "ok")

    def test_the_run_goes_on_with_its_program(self):
        for line in ("drop a", line_of("a", WORD), "program a function f 1|  pay 9|"):
            desk = desk_with("call a f", a=COIN)
            self.told(desk, line, "ok")
            self.told(desk, "give yes", "ok")
            self.told(desk, "go", "ok")
            self.told(desk, "look", "f 3 x=yes / f 0 ? no yes")
            self.told(desk, "price", "2")
        self.told(desk, "call a f", "ok")
        self.told(desk, "look", "f 0")
        self.told(desk, "price", "0")

    def test_names_and_kept(self):
        desk = desk_with(b=WORD, a=COIN)
        self.told(desk, "names", "a b")
        for thing in [*odd_objects(), "c", "A", "f"]:
            with self.assertRaises(NoName) as caught:
                desk.kept(thing)
            self.assertIs(caught.exception.name, thing)
        desk.tell("drop a")
        self.assertRaises(NoName, desk.kept, "a")
        self.assertEqual(desk.kept("b"), WORD)

    def test_no_lines(self):
        desk = desk_with("call a f", a=COIN)
        right = ("program b function f 1|", "drop a", "call a f", "give yes", "go", "look", "price", "ends a f", "settles a f",
                 "names", "undo")
        for line in right:
            self.refused(desk, line + "\n", NoLine)
            self.refused(desk, "\n" + line, NoLine)
            self.refused(desk, " " + line, NoLine)
            self.refused(desk, line.upper(), NoLine)
            self.refused(desk, line.capitalize(), NoLine)
            self.refused(desk, line.replace(" ", "  ", 1) if " " in line else line + "  ", NoLine)
            if not line.startswith("program"):
                self.refused(desk, line + " ", NoLine)
                self.refused(desk, line + " A", NoLine)
                self.refused(desk, line + " x1", NoLine)
                self.refused(desk, line + " abcdefghi", NoLine)
                self.refused(desk, line + " 'a", NoLine)
            if line.split(" ")[0] not in ("program", "call", "ends", "settles"):
                self.refused(desk, line + " a", NoLine)
        for line in ("", " ", "\n", "program", "program ", "program a", "program A function f 1|", "program a1 function f 1|",
                     "program  function f 1|", "program abcdefghi function f 1|", "program a\nfunction f 1|",
                     "program a function f 1\n", "programs a function f 1|", "drop", "drop ", "drop a b", "drop A", "drop 1",
                     "call", "call a", "call A f", "call a F", "call a f A", "call a f a  b", "call a f [a]", "give", "give ",
                     "give yes no", "give Yes", "give 1", "go on", "go 1", "look a", "price 1", "ends", "ends a", "ends a f 1",
                     "settles a", "settle a f", "settles a f A", "names a", "undo 1", "undo undo", "redo", "would", "kept a",
                     "tell look", "look|", "abcdefghi", "look\t", "look\r", "call a f\n"):
            self.refused(desk, line, NoLine)
        for thing in odd_objects():
            self.refused(desk, thing, NoLine)

    def test_errors_in_order(self):
        desk = desk_with(a=COIN)
        # NoLine comes ahead of all others, the text's errors ahead of nothing else.
        self.refused(desk, "program A x", NoLine)
        self.refused(desk, "call none g A", NoLine)
        self.refused(desk, "give A", NoLine)
        self.refused(desk, "call none f a", NoName, name="none")
        self.refused(desk, "call a g a", NoName, name="g")
        self.refused(desk, "call a f a", BadCall)
        self.refused(desk, "give maybe", NoRun)
        desk.tell("call a f")
        self.refused(desk, "give maybe", BadAnswer)
        desk.tell("give no")
        desk.tell("go")
        self.refused(desk, "give maybe", HasEnded)


class Undo(unittest.TestCase):
    def test_each_kind_of_line(self):
        lines = ("program a function f 1|", line_of("b", COIN), "program a function g 1|", "call b f", "give yes", "go", "go",
                 "give no", "drop b", "go", "call a g", "go", "drop a", line_of("b", WORD), "call b f a", "go")
        desk, states = Desk(), []
        for at, line in enumerate(lines):
            states.append(state(desk))
            self.assertEqual(states[-1][2], at)
            self.assertEqual(desk.tell(line), "ok")
        for before in states[::-1]:
            self.assertEqual(desk.would("undo"), "ok")
            self.assertEqual(desk.tell("undo"), "ok")
            self.assertEqual(state(desk), before)
        for _ in range(2):
            self.assertRaises(NothingDone, desk.tell, "undo")
            self.assertRaises(NothingDone, desk.would, "undo")
        self.assertEqual(desk.undoable(), 0)

    def test_what_is_not_taken_back(self):
        """Lines that ask, and lines that are refused."""
        desk = desk_with("call a f", "give yes", a=COIN)
        before = state(desk)
        for line in ("look", "price", "ends a f", "settles a f", "names"):
            desk.tell(line)
            self.assertEqual(state(desk), before)
        for line in ("give yes", "drop b", "call b f", "call a g", "call a f x", "program b x", "", "undo 1"):
            self.assertRaises(EndError, desk.tell, line)
            self.assertEqual(state(desk), before)
        desk.tell("undo")
        self.assertEqual(desk.tell("look"), "f 0 ? no yes")
        self.assertEqual(desk.undoable(), 2)

    def test_a_run_that_was_left_is_there_again(self):
        desk = desk_with("call a f", "give yes", "go", "call a f", "give no", "go", a=COIN)
        self.assertEqual(desk.tell("look"), "ended value done")
        for _ in range(3):
            desk.tell("undo")
        self.assertEqual((desk.tell("look"), desk.tell("price")), ("f 3 x=yes / f 0 ? no yes", "2"))
        desk.tell("give no")
        desk.tell("go")
        self.assertEqual((desk.tell("look"), desk.tell("price")), ("ended value done", "2"))
        for _ in range(4):
            desk.tell("undo")
        self.assertEqual(desk.tell("look"), "f 0 ? no yes")
        desk.tell("undo")
        self.assertEqual(desk.tell("look"), "none")
        self.assertRaises(NoRun, desk.tell, "price")
        self.assertEqual(desk.undoable(), 1)

    def test_go_without_a_step_is_a_line_that_was_done(self):
        desk = desk_with("call a f", "go", "go", a=COIN)
        self.assertEqual(desk.undoable(), 4)
        for many in (3, 2):
            desk.tell("undo")
            self.assertEqual((desk.tell("look"), desk.undoable()), ("f 0 ? no yes", many))

    def test_undo_of_what_was_exchanged_and_dropped(self):
        desk = desk_with("drop a", a=COIN)
        desk.tell(line_of("a", WORD))
        desk.tell(line_of("a", RICH))
        for program in (WORD, None, COIN):
            desk.tell("undo")
            if program is None:
                self.assertEqual(desk.tell("names"), "none")
                self.assertRaises(NoName, desk.kept, "a")
            else:
                self.assertEqual(desk.kept("a"), program)

    def test_again_and_again(self):
        desk = desk_with("call a f", a=COIN)
        for _ in range(50):
            desk.tell("give yes")
            desk.tell("go")
            desk.tell("undo")
            desk.tell("undo")
        self.assertEqual((desk.tell("look"), desk.undoable()), ("f 0 ? no yes", 2))


class Would(unittest.TestCase):
    def test_would_changes_nothing(self):
        desk = desk_with("call a f", "give yes", "go", "call a f", a=COIN)
        before = state(desk)
        for line in ("program b function f 1|", "drop a", "call a f", "give yes", "go", "undo", "look", "ends a f"):
            for _ in range(2):
                desk.would(line)
                self.assertEqual(state(desk), before)
        desk.tell("undo")
        self.assertEqual(desk.tell("look"), "f 3 x=yes / f 0 ? no yes")

    def test_would_undo_leaves_the_run_before_as_it_is(self):
        desk = desk_with("call a f", "give yes", "go", "call a f", "give yes", a=COIN)
        for _ in range(3):
            self.assertEqual(desk.would("undo"), "ok")
        self.assertEqual(desk.tell("look"), "f 1 x=yes")
        desk.tell("undo")
        desk.tell("undo")
        self.assertEqual((desk.tell("look"), desk.tell("price")), ("f 3 x=yes / f 0 ? no yes", "2"))

    def test_two_desks(self):
        one_desk, other = desk_with(a=COIN), desk_with(a=WORD)
        one_desk.tell("call a f")
        self.assertEqual((other.tell("look"), other.undoable()), ("none", 1))
        other.tell("call a f w")
        one_desk.tell("drop a")
        self.assertEqual((one_desk.tell("look"), other.tell("look")), ("f 0 ? no yes", "f 0 a=w"))
        self.assertEqual((one_desk.tell("names"), other.tell("names")), ("none", "a"))

    def test_many_lines(self):
        """By chance, against programs and runs kept apart: each state is there again when lines are taken back."""
        undone = 0
        for seed in range(40):
            chance, desk, states = random.Random(seed), Desk(), []
            programs, run = {}, None
            for _ in range(60):
                line = self.line(chance, programs, run)
                before, kept = state(desk), (dict(programs), None if run is None else run.copy())
                try:
                    answer, error = desk.would(line), None
                except EndError as told:
                    answer, error = None, told
                self.assertEqual(state(desk), before)
                if error is not None:
                    with self.assertRaises(type(error)) as caught:
                        desk.tell(line)
                    self.assertEqual(vars(caught.exception), vars(error))
                    self.assertEqual(state(desk), before)
                    continue
                self.assertEqual(desk.tell(line), answer)
                if line == "undo":
                    undone += 1
                    told, (programs, run) = states.pop()
                    self.assertEqual(state(desk), told)
                elif line.split(" ")[0] in ("program", "drop", "call", "give", "go"):
                    self.assertEqual(answer, "ok")
                    states.append((before, kept))
                    run = self.does(line, programs, run)
                else:
                    self.answers(line, answer, programs)
                self.assertEqual(desk.undoable(), len(states))
                self.assertEqual({name: desk.kept(name) for name in programs}, programs)
                if run is not None:
                    self.assertEqual(desk.tell("price"), str(run.price))
                    self.assertEqual(desk.tell("look").startswith("ended"), run.end is not None)
        self.assertGreater(undone, 200)

    def line(self, chance, programs, run):
        name, word = chance.choice("ab"), chance.choice("aw")
        words = (run and run.asks()) or ("a",)
        return chance.choice((
            line_of(name, Small(chance.randrange(50)).program), f"drop {name}", f"call {name} f {word}",
            f"call {name} {chance.choice('fgh')} {word}", f"give {chance.choice(words)}", f"give {chance.choice(words)}",
            f"give {word}", "go", "go", "undo", "undo", "undo", f"ends {name} f {word}", f"settles {name} f {word}", "look"))

    def does(self, line, programs, run):
        """Do a line to programs and a run; return the run."""
        word, *words = line.split(" ", 2)
        if word == "program":
            programs[words[0]] = next(program for seed in range(50) for program in [Small(seed).program]
                                      if line_of(words[0], program) == line)
        elif word == "drop":
            del programs[words[0]]
        elif word == "call":
            function, argument = words[1].split(" ")
            return Run(programs[words[0]], begin_call(programs[words[0]], function, (argument,)))
        elif word == "give":
            run.step(words[0])
        else:
            for _ in range(2000):
                if run.end is not None or run.asks():
                    break
                run.step(None)
        return run

    def answers(self, line, answer, programs):
        """The answers of ends and settles, by what is told of calls."""
        word, *words = line.split(" ")
        if word in ("ends", "settles"):
            program = programs[words[0]]
            call = begin_call(program, words[1], (words[2],))
            if word == "settles":
                self.assertEqual(answer, "yes" if always_ends(program, call) else "no")
                return
            for part in answer.split(" | ") if answer != "none" else ():
                text, _, prices = part.rpartition(" (")
                kind, worth, shared = text.replace(";", "").split(" ")
                end = (kind, worth, (shared,))
                high = greatest(program, call, end)
                self.assertEqual(prices, f"{least(program, call, end)} {'-' if high is None else high})")


if __name__ == "__main__":
    unittest.main()
