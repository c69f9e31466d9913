"""Programs written as texts (12.1)."""

import unittest

from everyend.plain import plain
from everyend.programs import Program
from everyend.texts import program_text
from tests.everything import WHOLE, Anything
from tests.samples import COIN, RICH, WORD, one

YES = ("same", ("a",), ("a",))
WHOLE_TEXT = """\
shared low lo
shared top hi
class cell 1 - left
  method also look
  method see look
class pair 2 cell right more
  method turn swap
class void 1 -
function all 1
  set a 'b
  share top low
  pay 9
  ask x yes no oh
  if same x 'yes
    loop not kind y row
      push y y x
      pop z 'none
      if not not not kind 'w pair
      else
        last
          try
            raise u
          catch u
          try
          catch u
            pay 0
          last
          after
        after
          return top
    if same 'yes 'yes
      pay 1
  else
    if kind x void
  call x swap x 'me
  apply x k
  send x x look a b 'c d
  new v void
  keep k all
  loop kind x kept
function look 1 me
  get x me left
  return x
function swap 2 me w
  with x me left w
  with x x left 'oh
  return x
"""


class Texts(unittest.TestCase):
    def lines(self, statement, *lines):
        """The lines of a statement, and those behind it."""
        program = one(statement, ("pay", 1), parameters=("p", "q"), shared={"s": "a"},
                      classes={"c": (None, 1, ("x",), {})}, others={"g": ((), 2, ())})
        expected = ["shared s a", "class c 1 - x", "function f 1 p q", *["  " + line for line in lines], "  pay 1",
                    "function g 2"]
        self.assertEqual(program_text(program), "".join(line + "\n" for line in expected))

    def test_e10(self):
        self.assertEqual(program_text(WORD), "function f 1 a\n  raise a\n")

    def test_whole(self):
        self.assertEqual(program_text(WHOLE), WHOLE_TEXT)

    def test_coin(self):
        self.assertEqual(program_text(COIN), "function f 1\n  ask x no yes\n  if same x 'yes\n    pay 2\n"
                                             "    call y f\n  return 'done\n")

    def test_rich(self):
        self.assertEqual(program_text(RICH).split("\n"), [
            "shared low lo", "shared top hi", "class box 2 - in", "class cell 1 - left", "  method see look",
            "class pair 1 cell right", "  method turn swap", "class void 1 -", "function f 1 a b", "  return a",
            "function g 2", "function h 2 a b c", "function look 1 me", "  get x me left", "  return x",
            "function swap 1 me with", "  with x me left with", "  return x", ""])

    def test_words_of_the_document(self):
        self.lines(("if", ("same", "x", ("a",)), (), ()), "if same x 'a")
        self.lines(("loop", ("not", ("kind", "y", "row")), ()), "loop not kind y row")
        self.lines(("call", "x", "f", (("a",), "y")), "call x f 'a y")
        self.lines(("ask", "x", ("yes", "no")), "ask x yes no")
        self.lines(("pay", 3), "pay 3")

    def test_each_statement(self):
        for statement, line in (
                (("set", "x", "y"), "set x y"), (("set", "set", ("set",)), "set set 'set"),
                (("share", "s", ("b",)), "share s 'b"), (("share", "s", "s"), "share s s"), (("pay", 0), "pay 0"),
                (("ask", "x", ("b", "a", "c")), "ask x b a c"), (("return", "x"), "return x"),
                (("return", ("x",)), "return 'x"), (("raise", "x"), "raise x"), (("raise", ("x",)), "raise 'x"),
                (("call", "x", "g", ()), "call x g"), (("apply", "x", ("y",), ()), "apply x 'y"),
                (("apply", "x", "y", ("a", ("b",), "c", "d")), "apply x y a 'b c d"),
                (("send", "x", "y", "m", ()), "send x y m"), (("send", "x", ("y",), "m", (("m",),)), "send x 'y m 'm"),
                (("new", "x", "c", ("a", ("b",))), "new x c a 'b"), (("keep", "x", "g", ("a", ("b",))), "keep x g a 'b"),
                (("get", "x", "y", "z"), "get x y z"), (("get", "x", ("y",), "z"), "get x 'y z"),
                (("with", "x", "y", "z", "w"), "with x y z w"), (("with", "x", ("y",), "z", ("w",)), "with x 'y z 'w"),
                (("push", "x", ("none",), "y"), "push x 'none y"), (("pop", "x", "y"), "pop x y")):
            self.lines(statement, line)

    def test_tests(self):
        for test, words in ((("same", "a", "b"), "same a b"), (("same", ("a",), ("b",)), "same 'a 'b"),
                            (("kind", "a", "c"), "kind a c"), (("kind", ("a",), "word"), "kind 'a word"),
                            (("kind", "kept", "kept"), "kind kept kept")):
            for nots in range(4):
                self.lines(("loop", test, ()), "loop " + "not " * nots + words)
                self.lines(("if", test, (), ()), "if " + "not " * nots + words)
                test = ("not", test)

    def test_blocks(self):
        pay = (("pay", 2),)
        self.lines(("if", YES, pay, ()), "if same 'a 'a", "  pay 2")
        self.lines(("if", YES, (), pay), "if same 'a 'a", "else", "  pay 2")
        self.lines(("if", YES, pay, pay * 2), "if same 'a 'a", "  pay 2", "else", "  pay 2", "  pay 2")
        self.lines(("loop", YES, pay * 2), "loop same 'a 'a", "  pay 2", "  pay 2")
        self.lines(("try", (), "x", ()), "try", "catch x")
        self.lines(("try", pay, "x", ()), "try", "  pay 2", "catch x")
        self.lines(("try", (), "x", pay), "try", "catch x", "  pay 2")
        self.lines(("last", (), ()), "last", "after")
        self.lines(("last", pay, ()), "last", "  pay 2", "after")
        self.lines(("last", (), pay), "last", "after", "  pay 2")

    def test_blocks_in_blocks(self):
        inner = ("if", YES, (), (("try", (("last", (("pay", 1),), (("pay", 2),)),), "x", (("pay", 3),)),))
        lines = ("if same 'a 'a", "else", "  try", "    last", "      pay 1", "    after", "      pay 2", "  catch x",
                 "    pay 3")
        self.lines(inner, *lines)
        self.lines(("loop", YES, (inner, ("pay", 4))), "loop same 'a 'a", *["  " + line for line in lines], "  pay 4")

    def test_dicts_in_another_order(self):
        turned = [dict(list(told.items())[::-1]) for told in (WHOLE.shared, WHOLE.classes, WHOLE.functions)]
        turned[1] = {name: (*told, dict(list(methods.items())[::-1])) for name, (*told, methods) in turned[1].items()}
        self.assertEqual(program_text(Program(*turned)), WHOLE_TEXT)

    def test_plain_programs(self):
        """Also those whose blocks are longer than blocks that may be passed."""
        program = one(("last", (), (("pay", 1),) * 8), ("last", (), (("pay", 2),) * 8))
        lines = program_text(plain(program)).split("\n")
        self.assertEqual(lines[:3] + lines[-3:], ["function f 1", "  try", "  catch za", "  pay 2", "  pay 2", ""])
        self.assertEqual(len(lines), 1 + 2 * (2 + 9 + 8) + 1)

    def test_unlike_programs_have_unlike_texts(self):
        texts = {}
        for seed in range(300):
            program = Anything(seed).program
            texts.setdefault(program_text(program), program)
            self.assertEqual(texts[program_text(program)], program)
        self.assertGreater(len(texts), 250)


if __name__ == "__main__":
    unittest.main()
