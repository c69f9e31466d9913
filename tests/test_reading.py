"""Programs read from texts (12.2)."""

import random
import re
import time
import unittest

from everyend.errors import BadProgram, BadText
from everyend.programs import Program
from everyend.reading import read_program
from everyend.texts import program_text
from tests.everything import WHOLE, Anything
from tests.samples import COIN, RICH, WORD, odd_objects
from tests.test_texts import WHOLE_TEXT

E = "('?NAME)"
FORMS = {word: re.compile(form.replace("TEST", f"(not ){{0,3}}(same {E} {E}|kind {E} NAME)").replace(
    "NAME", "[a-z]{1,8}") + r"\Z") for word, form in {
        "shared": "shared NAME NAME", "class": r"class NAME \d (NAME|-)( NAME)*", "method": "method NAME NAME",
        "function": r"function NAME \d( NAME)*", "set": f"set NAME {E}", "share": f"share NAME {E}", "pay": r"pay \d",
        "ask": "ask NAME( NAME)*", "if": "if TEST", "else": "else", "loop": "loop TEST", "return": f"return {E}",
        "raise": f"raise {E}", "try": "try", "catch": "catch NAME", "last": "last", "after": "after",
        "call": f"call NAME NAME( {E})*", "apply": f"apply NAME {E}( {E})*", "send": f"send NAME {E} NAME( {E})*",
        "new": f"new NAME NAME( {E})*", "keep": f"keep NAME NAME( {E})*", "get": f"get NAME {E} NAME",
        "with": f"with NAME {E} NAME {E}", "push": f"push NAME {E} {E}", "pop": f"pop NAME {E}"}.items()}
ORDER = ("shared", "class", "function")
SECONDS = {"else": "if", "catch": "try", "after": "last"}
OPENING = ("function", "if", "else", "loop", "try", "catch", "last", "after")


def first_wrong(text):
    """The line that BadText tells of, or None: by the last line of each depth alone."""
    *lines, rest = text.split("\n")
    path, names = [], {"section": 0, "name": "", "method": ""}
    for at, line in enumerate([*lines, "" if not rest else "?"], 1):
        is_end = at > len(lines)
        told = line.lstrip(" ")
        deep, word = (len(line) - len(told)) // 2, told.split(" ")[0]
        if is_end:
            deep, word = 0, None
        elif (len(line) - len(told)) % 2 or word not in FORMS or not FORMS[word].match(told):
            return at
        # What is left must have had its second block, and an else its lines.
        for level in range(deep, len(path)):
            goes_on = level == deep and SECONDS.get(word) == path[level]
            if path[level] in ("try", "last") and not goes_on or path[level] == "else" and level == len(path) - 1:
                return at
        if is_end:
            return at if rest else None
        if (deep == 0) != (word in ORDER) or deep > len(path):
            return at
        if word in SECONDS and (deep >= len(path) or path[deep] != SECONDS[word]):
            return at
        if deep and (path[deep - 1] == "class") != (word == "method"):
            return at
        if deep and word != "method" and path[deep - 1] not in OPENING:
            return at
        name = (told.split(" ") + [""])[1]
        if word == "method":
            if name <= names["method"]:
                return at
            names["method"] = name
        if deep == 0:
            section = ORDER.index(word)
            if section < names["section"] or (section == names["section"] and name <= names["name"]):
                return at
            names = {"section": section, "name": name, "method": ""}
        path = [*path[:deep], word]
    return None


class Reading(unittest.TestCase):
    def wrong(self, line, *lines, end="\n"):
        """BadText with the number of this line."""
        text = "".join(part + "\n" for part in lines)[:-1] + end
        with self.assertRaises(BadText, msg=text) as caught:
            read_program(text)
        self.assertEqual(caught.exception.line, line, text)
        self.assertEqual(first_wrong(text), line, text)

    def inside(self, line, *lines):
        """The same of lines of a function's block, counted from 1; lines behind them change nothing."""
        for behind in ((), ("  pay 1", "function g 1")):
            self.wrong(line + 2, "function e 1", "function f 1", *["  " + part for part in lines], *behind)

    def part(self, part, *lines):
        text = "".join(line + "\n" for line in lines)
        with self.assertRaises(BadProgram, msg=text) as caught:
            read_program(text)
        self.assertEqual(caught.exception.part, part, text)
        self.assertIsNone(first_wrong(text))

    def test_programs_come_back(self):
        for program in [COIN, WORD, RICH, WHOLE] + [Anything(seed).program for seed in range(500)]:
            text = program_text(program)
            self.assertEqual(read_program(text), program)
            self.assertIsNone(first_wrong(text))
        self.assertEqual(read_program(WHOLE_TEXT), WHOLE)

    def test_no_string(self):
        for thing in odd_objects():
            if not isinstance(thing, str):
                with self.assertRaises(BadText) as caught:
                    read_program(thing)
                self.assertEqual(caught.exception.line, 0)

    def test_strings_of_no_program(self):
        for thing in [thing for thing in odd_objects() if isinstance(thing, str) and thing]:
            self.wrong(1, thing, end="" if thing.endswith("\n") else "\n")

    def test_the_empty_text(self):
        self.part("functions")
        self.part("functions", "shared a b")
        self.part("functions", "shared a b", "class c 1 -")

    def test_the_end(self):
        self.wrong(1, "function f 1", end="")
        self.wrong(2, "function f 1", "  pay 1", end="")
        self.wrong(2, "function f 1", "x", end="")
        self.wrong(2, "function f 1", " ", end="")
        self.wrong(3, "function f 1", "  pay 1", " ", end="")
        self.wrong(2, "function f 1", "", end="\n")
        self.wrong(1, "", end="\n")
        self.wrong(1, " ", end="")
        # A wrong line ahead comes first.
        self.wrong(1, "function F 1", "  pay 1", end="")
        self.wrong(2, "function f 1", "  pay", "  pay 1", end="")

    def test_blanks(self):
        for line in ("pay 1 ", "pay  1", " pay 1", "  pay 1", "   pay 1", "", " ", "  ", "set x 'a ", "set  x y", "try ",
                     "pay\t1", "pay 1\t", "pay 1\r", "\tpay 1"):
            self.inside(1, line)
            self.inside(2, "pay 1", line)
        for line in ("shared a b ", " shared a b", "  shared a b", "shared  a b", "", " function f 1", "function f 1 ",
                     "function f  1", "function f 1  a", "class c 1 - ", "  class c 1 -", "  function f 1", "  "):
            self.wrong(1, line)
            self.wrong(2, "shared a b", line)
        for line in (" method a f", "method a f", "   method a f", "    method a f", "  method a f ", "  method  a f"):
            self.wrong(2, "class c 1 -", line)
            self.wrong(3, "class c 1 -", "  method a f", line)

    def test_words_that_are_none(self):
        for line in ("pay 10", "pay a", "pay -1", "pay 01", "pay ", "pay '1", "pay +", "set X y", "set x Y", "set x 'Y",
                     "set 'x y", "set x ''y", "set x '", "set x y'", "set abcdefghi y", "set x 'abcdefghi", "set x1 y",
                     "set x 1", "set - y", "set x -", "ask x 'yes no", "ask x yes 'no", "ask x yes 1", "catch", "end",
                     "call x 'f", "call 'x f", "call x f '", "send x y 'm", "get x y 'z", "get 'x y z", "with x y 'z w",
                     "new x 'c", "new x c ''a", "keep x 'f", "share 's a", "return A", "raise ''", "nothing", "Pay 1",
                     "if same x", "pop x y|", "set x y; set x z", "method a f", "shared a b", "class c 1 -", "function g 1"):
            self.inside(1, line)
            self.inside(2, "pay 1", line)
        for line in ("shared A b", "shared a B", "shared a 'b", "shared 'a b", "shared a 1", "share a b", "class c a -",
                     "class C 1 -", "class c 1 _", "class c 1 'd", "class c 10 -", "class c 1 - -", "class c 1 - X",
                     "class c 1 d 'e", "class c -1 -", "function F 1", "function f x", "function f 1 'a", "function f 12",
                     "function f 1 -", "functions f 1", "pay 1", "else", "try", "method a f", "function 1 f", "class - 1 c"):
            self.wrong(1, line)
            self.wrong(2, "shared a b", line)
        for line in ("method A f", "method a F", "method a 'f", "method 1 f", "methods a f", "pay 1", "shared x y"):
            self.wrong(2, "class c 1 -", "  " + line)
            self.wrong(3, "class c 1 -", "  method a f", "  " + line)

    def test_words_too_many_or_too_few(self):
        for line in ("set x", "set", "set x y z", "share s", "share s a b", "pay", "pay 1 2", "ask", "if", "loop", "return",
                     "return x y", "raise", "raise x y", "try x", "try a b", "last x", "call x", "call", "apply x", "apply",
                     "send x y", "send x", "new x", "keep x", "get x y", "get x y z w", "with x y z", "with x y z w v",
                     "push x y", "push x y z w", "pop x", "pop x y z"):
            self.inside(1, line)
        for line in ("shared a", "shared", "shared a b c", "class c 1", "class c", "class", "function f", "function"):
            self.wrong(1, line)
        for line in ("method", "method a", "method a f g"):
            self.wrong(2, "class c 1 -", "  " + line)
        self.inside(2, "try", "catch")
        self.inside(2, "try", "catch x y")
        self.inside(2, "last", "after x")
        self.inside(2, "if same x y", "else x")

    def test_tests(self):
        for head in ("if", "loop"):
            for test in ("same x", "same x y z", "same", "kind x", "kind x row y", "kind x 'row", "kind", "not", "not not",
                         "not x", "x", "same x Y", "same 'x '", "kind 1 row", "kind x 1", "not not not not same x y",
                         "not not not not not kind x row", "same x y not", "nots same x y", "like x y", "not same x"):
                self.inside(1, f"{head} {test}")
            for test in ("same not 'not", "kind same same", "not not not same kind not", "kind 'kind kept"):
                lines = ["function f 1", f"  {head} {test}"]
                try:
                    text = program_text(read_program("".join(line + "\n" for line in lines)))
                    self.assertEqual(text.split("\n"), [*lines, ""])
                except BadProgram as error:
                    self.assertEqual((error.part, test), ("block f", "kind same same"))

    def test_lines_too_deep_or_not_deep_enough(self):
        self.inside(2, "pay 1", "  pay 1")
        self.inside(2, "pay 1", "    pay 1")
        self.inside(2, "if same x y", "    pay 1")
        self.inside(3, "if same x y", "  pay 1", "    pay 1")
        self.inside(4, "if same x y", "  loop same x y", "    pay 1", "      pay 2")
        self.inside(5, "loop same x y", "  loop same x y", "    pay 1", "  pay 2", "    pay 3")
        self.inside(2, "if same x y", " pay 1")
        self.wrong(2, "function f 1", "pay 1")
        self.wrong(2, "function f 1", "    pay 1")
        self.wrong(2, "shared a b", "  pay 1")
        self.wrong(1, "  pay 1")
        self.wrong(3, "class c 1 -", "  method a f", "    method b f")

    def test_second_blocks_that_must_come(self):
        text = ("function f 1", "  try", "    pay 1")
        self.wrong(3, *text[:2])
        self.wrong(4, *text)
        for line in ("  pay 1", "function g 1", "  else", "  after", "  try", "catch x", "    catch x", "  end", "  catch"):
            self.wrong(4, *text, line)
            self.wrong(3, *text[:2], line)
        text = ("function f 1", "  last", "    pay 1")
        self.wrong(3, *text[:2])
        self.wrong(4, *text)
        for line in ("  pay 1", "function g 1", "  else", "  catch x", "  last", "after", "    after", "  after x"):
            self.wrong(4, *text, line)
            self.wrong(3, *text[:2], line)
        text = ("function f 1", "  if same x y", "  else")
        self.wrong(4, *text)
        for line in ("  pay 1", "function g 1", "  else", "      pay 1", "else", "    else", "  after", "  catch x"):
            self.wrong(4, *text, line)
        # Of several that must come, the line that comes next must be one of the innermost.
        text = ("function f 1", "  try", "    last", "      if same x y", "      else", "        pay 1")
        self.wrong(7, *text)
        self.wrong(6, *text[:5])
        self.wrong(7, *text, "  catch x")
        self.wrong(8, *text, "    after")
        self.wrong(9, *text, "    after", "      pay 1")
        self.assertIsInstance(read_program("\n".join([*text, "    after", "  catch x", ""])), Program)

    def test_second_blocks_that_may_not_come(self):
        for line in ("else", "catch x", "after"):
            self.inside(1, line)
            self.inside(2, "pay 1", line)
            self.inside(2, "loop same x y", line)
            self.inside(3, "loop same x y", "  pay 1", line)
            self.inside(4, "try", "catch x", "  pay 1", line)
            self.inside(3, "try", "catch x", line)
            self.inside(3, "last", "after", line)
            self.inside(4, "if same x y", "else", "  pay 1", line)
            self.inside(3, "if same x y", "pay 1", line)
        self.inside(2, "if same x y", "  else")
        self.inside(2, "if same x y", "catch x")
        self.inside(2, "if same x y", "after")

    def test_order(self):
        for lines in (("shared b a", "shared a a"), ("shared a a", "shared a b"), ("class c 1 -", "class b 1 -"),
                      ("class c 1 -", "class c 1 -"), ("class a 1 -", "shared b a"), ("function f 1", "function e 1"),
                      ("function f 1", "function f 2"), ("function f 1", "shared z a"), ("function f 1", "class z 1 -"),
                      ("shared ab a", "shared aa a"), ("shared ab a", "shared a a"), ("function b 1", "function aaaaaaaa 1")):
            self.wrong(2, *lines)
        self.wrong(3, "class c 1 -", "  method b f", "  method a f")
        self.wrong(3, "class c 1 -", "  method b f", "  method b g")
        self.wrong(4, "class c 1 -", "  method b f", "class d 1 -", "shared a a")
        # Each class has methods of its own, and the names of unlike things are of no matter for each other.
        text = ("shared z z", "class a 1 -", "  method b f", "class c 1 a x", "  method a f", "  method b f", "function a 1",
                "function f 2 x", "  return x", "")
        self.assertEqual(program_text(read_program("\n".join(text))), "\n".join(text))

    def test_what_is_no_matter_of_form(self):
        f = "function f 1"
        self.part("shared", *[f"shared {name} a" for name in "abcde"], f)
        self.part("classes", *[f"class {name} 1 -" for name in "abcdefg"], f)
        for line in ("class c 0 -", "class c 3 -", "class word 1 -", "class kept 1 -", "class row 1 -", "class c 1 d",
                     "class c 1 c", "class c 1 - a a", "class c 1 - a b c d"):
            self.part("classes", line, f)
        self.part("classes", "class a 1 b", "class b 1 a", f)
        self.part("classes", "class a 1 - x y z", "class b 1 a v w", f)
        for line in ("function f 0", "function f 3", "function f 9", "function f 1 a a", "function f 1 a b c d e"):
            self.part("functions", line)
        self.part("functions", *[f"function {name} 1" for name in "abcdefghijklm"])
        self.part("methods", "class c 1 -", "  method a f", f)
        self.part("methods", "class c 1 -", "  method a g", f)
        for line in ("ask x", "ask x a", "ask x a a", "ask x a b c d", "share x y", "call x g", "keep x g", "new x c",
                     "if kind x c", "loop not kind x c", "call x f a b c d e", "apply x y a b c d e", "new x f"):
            self.part("block f", f, "  " + line)
            self.part("block f", f, "  " + line, "function h 1", "  call x q")
        self.part("block g", f, "  pay 1", "function g 1", *["  pay 1"] * 13)
        self.part("block f", f, "  last", "    return x", "  after")
        self.part("block f", f, *["  " * many + "loop same x y" for many in range(1, 7)])
        self.part("block f", f, *["  " * many + "if same x y" for many in range(1, 31)])
        self.part("block f", f, *["  " * many + "try" for many in range(1, 31)],
                  *["  " * many + "catch x" for many in range(30, 0, -1)])
        self.assertIsInstance(read_program("".join(line + "\n" for line in (
            f, *["  " * many + "loop same x y" for many in range(1, 6)], "            pay 1"))), Program)

    def test_lasts(self):
        def lines(many):
            for at in range(many):
                if at % 9 == 0:
                    yield "  if same x y"
                yield from ("    last", "      pay 1", "    after")
        self.assertIsInstance(read_program("\n".join(["function f 1", *lines(26), ""])), Program)
        self.part("last", "function f 1", *lines(27))
        self.part("last", "function f 1 za", *lines(26))
        self.part("last", "function f 1", "function g 1", "  set x 'zz", *lines(26))
        self.assertIsInstance(read_program("\n".join(["function f 1 zaz", *lines(26), ""])), Program)

    def test_long_texts(self):
        """Of nearly 400 statements, and a longer one."""
        groups = []
        for many in range(12):
            groups += ["  loop same x y", *["    call x f a b c d"] * 11]
        begin = time.monotonic()
        for functions in (2, 12):
            text = "".join(f"function f{letter} 1\n" + "".join(line + "\n" for line in groups)
                           for letter in "abcdefghijkl"[:functions]).replace("function fa", "function f")
            self.assertEqual(program_text(read_program(text)), text)
        self.wrong(289, *text.split("\n")[:288], "function f")
        self.part("block f", "function f 1", *["  pay 1"] * 3000)
        self.assertLess(time.monotonic() - begin, 10)

    def test_texts_that_are_changed(self):
        """Each line that is told is the first one that no text has there; a text that is read is the program's text."""
        told = {"text": 0, "program": 0, "read": 0}
        for seed in range(3000):
            chance = random.Random(seed)
            lines = program_text(Anything(seed % 100).program).split("\n")
            for _ in range(chance.choice((1, 1, 2))):
                change(lines, chance)
            text = "\n".join(lines)
            try:
                program = read_program(text)
                self.assertEqual(program_text(program), text)
                line, kind = None, "read"
            except BadText as error:
                line, kind = error.line, "text"
            except BadProgram:
                line, kind = None, "program"
            self.assertEqual(first_wrong(text), line, text)
            told[kind] += 1
        self.assertGreater(min(told.values()), 100)


def change(lines, chance):
    """Change a text somewhere."""
    at = chance.randrange(len(lines))
    words = lines[at].split(" ")
    kind = chance.randrange(9)
    if kind == 0:
        del lines[at]
    elif kind == 1:
        lines.insert(at, chance.choice(lines))
    elif kind == 2:
        lines[at] = chance.choice(("  ", " ", "    ")) + lines[at]
    elif kind == 3:
        lines[at] = lines[at][chance.choice((1, 2, 2, 4)):]
    elif kind == 4:
        words[-1:] = chance.choice(([], [words[-1], "a"], ["'a"], ["A"], ["1"], ["b"]))
        lines[at] = " ".join(words)
    elif kind == 5:
        other = chance.randrange(len(lines))
        lines[at], lines[other] = lines[other], lines[at]
    elif kind == 6:
        deep = len(lines[at]) - len(lines[at].lstrip(" "))
        lines.insert(at, " " * deep + chance.choice(("else", "try", "last", "after", "catch x", "loop same a b", "pay 0")))
    elif kind == 7:
        del lines[at:]
        lines.append(chance.choice(("", "", "x")))
    else:
        lines[at] = lines[at].replace(chance.choice("afglsx"), chance.choice("bct"), 1)
    if not lines:
        lines.append("")


if __name__ == "__main__":
    unittest.main()
