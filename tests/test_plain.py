"""Programs without statements last (2.4)."""

import unittest

from everyend.errors import BadProgram
from everyend.plain import plain
from everyend.programs import Program
from everyend.runs import ran
from tests.samples import COIN, RICH, one

LAST = ("last", (), ())
SAME = ("same", "a", "a")
PAY = ("pay", 1)
LETTERS = "abcdefghijklmnopqrstuvwxyz"


def block_of(program):
    return plain(program).functions["f"][2]


def written(first, name, second):
    """What stands for a last."""
    return (("try", first, name, (*second, ("raise", name))), *second)


def lasts(many):
    """A block with so many lasts, up to 36."""
    row = [LAST] * many
    return (("if", SAME, tuple(row[:12]), tuple(row[12:24])), ("loop", SAME, tuple(row[24:])))


class Plain(unittest.TestCase):
    def test_without_lasts(self):
        for program in (COIN, RICH):
            self.assertEqual(plain(program), program)

    def test_one(self):
        told = block_of(one(("pay", 3), ("last", (PAY, PAY), (("pay", 2),)), ("pay", 4)))
        self.assertEqual(told, (("pay", 3), ("try", (PAY, PAY), "za", (("pay", 2), ("raise", "za"))),
                                ("pay", 2), ("pay", 4)))
        self.assertEqual(block_of(one(LAST)), (("try", (), "za", (("raise", "za"),)),))

    def test_the_rest_is_as_it_was(self):
        program = Program({"s": "t"}, {"c": (None, 1, ("x",), {"m": "g"})},
                          {"f": (("p",), 2, (LAST,)), "g": (("q",), 1, (PAY,))})
        told = plain(program)
        self.assertIsInstance(told, Program)
        self.assertEqual((told.shared, told.classes), (program.shared, program.classes))
        self.assertEqual(told.functions, {"f": (("p",), 2, written((), "za", ())), "g": (("q",), 1, (PAY,))})
        self.assertEqual(program.functions["f"][2], (LAST,))
        self.assertNotEqual(told, program)

    def test_in_each_block(self):
        made = written((PAY,), "za", ())
        last = ("last", (PAY,), ())
        for around in (lambda inner: ("if", SAME, inner, ()), lambda inner: ("if", SAME, (PAY,), inner),
                       lambda inner: ("loop", SAME, inner), lambda inner: ("try", inner, "x", ()),
                       lambda inner: ("try", (), "x", inner)):
            self.assertEqual(block_of(one(around((PAY, last, PAY)))), (around((PAY, *made, PAY)),))

    def test_in_first_blocks(self):
        told = block_of(one(("last", (("last", (PAY,), (("pay", 2),)),), (("pay", 3),))))
        self.assertEqual(told, written(written((PAY,), "zb", (("pay", 2),)), "za", (("pay", 3),)))

    def test_in_second_blocks_the_copies_have_one_name(self):
        told = block_of(one(("last", (PAY,), (("last", (("pay", 2),), (("pay", 3),)), ("pay", 4)))))
        inner = (*written((("pay", 2),), "zb", (("pay", 3),)), ("pay", 4))
        self.assertEqual(told, (("try", (PAY,), "za", (*inner, ("raise", "za"))), *inner))

    def test_names_in_the_order_of_the_places(self):
        told = block_of(one(("last", (LAST,), (LAST,)), ("if", SAME, (LAST,), (LAST,)), LAST))
        first, second = written((), "zb", ()), written((), "zc", ())
        self.assertEqual(told, (*written(first, "za", second),
                                ("if", SAME, written((), "zd", ()), written((), "ze", ())), *written((), "zf", ())))

    def test_each_function_has_its_own_names(self):
        told = plain(one(LAST, others={"g": (("za",), 1, (LAST, LAST))})).functions
        self.assertEqual(told["f"][2], written((), "za", ()))
        self.assertEqual(told["g"][2], (*written((), "zb", ()), *written((), "zc", ())))

    def test_names_that_stand_there_are_left_out(self):
        standing = [("set", "za", "a"), ("set", "a", "za"), ("set", "a", ("za",)), ("share", "za", "a"),
                    ("raise", "za"),
                    ("ask", "a", ("b", "za")), ("ask", "za", ("b", "c")), ("loop", ("same", "a", "za"), ()),
                    ("loop", ("not", ("same", ("za",), "a")), ()), ("loop", ("kind", "a", "za"), ()),
                    ("try", (), "za", ()), ("call", "a", "za", ()), ("call", "a", "f", ("za",)),
                    ("keep", "a", "za", ()),
                    ("new", "a", "za", ()), ("get", "a", "a", "za"), ("with", "a", "a", "za", "a"),
                    ("send", "a", "a", "za", ()), ("apply", "a", "a", ("b", ("za",))), ("push", "a", "a", ("za",)),
                    ("pop", "a", "za"), ("if", SAME, (), (("return", "za"),))]
        for statement in standing:
            program = one(LAST, statement, shared={"za": "w"}, classes={"za": (None, 1, (), {})},
                          others={"za": ((), 1, ())})
            self.assertEqual(block_of(program), (*written((), "zb", ()), statement))
        self.assertEqual(block_of(one(LAST, parameters=("a", "za"))), written((), "zb", ()))
        self.assertEqual(block_of(one(LAST, ("set", "zb", "zd"), LAST, LAST)), (
            *written((), "za", ()), ("set", "zb", "zd"), *written((), "zc", ()), *written((), "ze", ())))

    def test_names_that_stand_elsewhere_are_taken(self):
        program = one(LAST, ("set", "z", "zza"), shared={"za": "za"}, classes={"za": (None, 1, ("za",), {"za": "g"})},
                      others={"za": (("za",), 1, (("set", "za", "za"),)), "g": (("za",), 1, ())})
        self.assertEqual(block_of(program), (*written((), "za", ()), ("set", "z", "zza")))
        own = Program({}, {}, {"za": ((), 1, (LAST,))})
        self.assertEqual(plain(own).functions["za"][2], written((), "za", ()))

    def test_as_many_lasts_as_names(self):
        told = block_of(one(*lasts(26)))
        names = [statement[2] for part in (told[0][2], told[0][3], told[1][2]) for statement in part]
        self.assertEqual(names, ["z" + letter for letter in LETTERS])
        with self.assertRaises(BadProgram) as caught:
            one(*lasts(27))
        self.assertEqual(caught.exception.part, "last")

    def test_fewer_names(self):
        one(*lasts(25), ("set", "zk", "a"))
        one(*lasts(26), ("set", "zzk", "a"))
        for many, statement in ((26, ("set", "zk", "a")), (25, ("set", "zk", ("zz",)))):
            with self.assertRaises(BadProgram) as caught:
                one(*lasts(many), statement)
            self.assertEqual(caught.exception.part, "last")

    def test_longer_than_blocks_that_are_passed(self):
        second = (("pay", 1),) * 12
        program = one(("last", (("last", (), second),) * 6, second))
        told = plain(program)
        block = told.functions["f"][2]
        self.assertEqual((len(block), len(block[0][1]), len(block[0][3])), (13, 78, 13))
        self.assertEqual(plain(told), told)
        with self.assertRaises(BadProgram):
            Program(told.shared, told.classes, told.functions)
        end = (("value", "none", ()), 84, 1 + 6 * 13 + 12 + 1)
        self.assertEqual(ran(program, ("f", (), ()), ()), end)
        self.assertEqual(ran(told, ("f", (), ()), ()), end)

    def test_as_deep_as_they_go(self):
        statement = ("pay", 1)
        for _ in range(5):
            statement = ("last", (PAY,), (PAY, statement))
        program = one(statement)
        told = plain(program)
        self.assertEqual(plain(told), told)
        end = (("value", "none", ()), 11, 17)
        self.assertEqual(ran(program, ("f", (), ()), ()), end)
        self.assertEqual(ran(told, ("f", (), ()), ()), end)


class Done(unittest.TestCase):
    """The second block is done behind the first one in any case."""

    def test_behind_an_error(self):
        program = one(("last", (("pay", 1), ("raise", ("oh",))), (("pay", 2),)), ("pay", 4))
        self.assertEqual(ran(program, ("f", (), ()), ()), (("error", "oh", ()), 3, 5))

    def test_behind_no_error(self):
        program = one(("last", (("pay", 1),), (("pay", 2),)), ("pay", 4))
        self.assertEqual(ran(program, ("f", (), ()), ()), (("value", "none", ()), 7, 5))

    def test_a_return_in_it(self):
        program = one(("last", (("raise", ("oh",)),), (("return", ("well",)),)))
        self.assertEqual(ran(program, ("f", (), ()), ())[0], ("value", "well", ()))

    def test_an_error_in_it(self):
        program = one(("last", (("raise", ("oh",)),), (("raise", ("no",)),)))
        self.assertEqual(ran(program, ("f", (), ()), ())[0], ("error", "no", ()))


if __name__ == "__main__":
    unittest.main()
