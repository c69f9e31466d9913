"""What is a price table of a call, and what is none (5.1)."""

import unittest

from everyend.following import back, following
from everyend.points import entry
from everyend.pricejudge import is_price_table
from everyend.prices import price_table
from tests.samples import COIN, RICH, WORD, odd_objects, one
from tests.small import Small
from tests.test_exploring import CALL, DONE, NONE, YES

OH = ("error", "oh", ())
NO = (("x", "no"),)


def changed(table, point, end, pair):
    """The table, with this pair for the end at the point."""
    return {key: {**row, end: pair} if key == point else dict(row) for key, row in table.items()}


def led_to(program, table):
    """All points to which those of a table lead."""
    found = []
    for point in table:
        told = following(program, point)
        if told[0] == "on":
            found.extend(told[2])
        elif told[0] == "call":
            found.extend([told[1], *[back(program, point, end) for end in table[told[1]]]])
    return found


class Judged(unittest.TestCase):
    def right(self, program, call, table):
        self.assertIs(is_price_table(program, call, table), True)

    def wrong(self, program, call, table):
        self.assertIs(is_price_table(program, call, table), False)


class SmallPrograms(Judged):
    """The exact tables of small programs, loosened and spoiled."""

    @classmethod
    def setUpClass(cls):
        cls.told = []
        for seed in range(250):
            small = Small(seed)
            cls.told.append((small.program, small.call, price_table(small.program, small.call)))

    def spoiled(self):
        for program, call, table in self.told:
            for point, row in list(table.items())[:12]:
                for end, pair in row.items():
                    yield program, call, table, point, end, pair

    def test_right_ones(self):
        for program, call, table in self.told:
            self.right(program, call, table)
            self.right(program, call, dict(reversed(table.items())))

    def test_loose_ones(self):
        for program, call, table in self.told:
            for free in ({point: {end: (0, high) for end, (low, high) in row.items()} for point, row in table.items()},
                         {point: {end: (low, None) for end, (low, high) in row.items()} for point, row in table.items()}):
                self.right(program, call, free)
            first = entry(program, call)
            if first not in led_to(program, table):
                for end in table[first]:
                    self.right(program, call, changed(table, first, end, (0, None)))

    def test_a_point_that_is_missing(self):
        for program, call, table in self.told:
            for point in table:
                self.wrong(program, call, {key: row for key, row in table.items() if key != point})

    def test_an_end_that_is_missing(self):
        for program, call, table, point, end, _ in self.spoiled():
            rest = {key: value for key, value in table[point].items() if key != end}
            self.wrong(program, call, {**table, point: rest})

    def test_low_one_too_great(self):
        for program, call, table, point, end, (low, high) in self.spoiled():
            self.wrong(program, call, changed(table, point, end, (low + 1, high)))

    def test_high_one_too_small(self):
        for program, call, table, point, end, (low, high) in self.spoiled():
            if high is None:
                self.wrong(program, call, changed(table, point, end, (low, 10 ** 29)))
            else:
                self.wrong(program, call, changed(table, point, end, (low, high - 1)))

    def test_flags_lists_and_numbers_below_0(self):
        for program, call, table, point, end, (low, high) in list(self.spoiled())[::7]:
            for pair in ([low, high], (low,), (low, high, high), (False, None), (0, False), (0, True), (None, None),
                         (-1, high), (0, -1), ("0", None), (0, ""), None, low, (), {}, ((low,), high)):
                self.wrong(program, call, changed(table, point, end, pair))

    def test_points_that_are_none_in_a_right_table(self):
        for program, call, table in self.told[:40]:
            function, place, pairs, shared = entry(program, call)
            for key in (None, 0, "f", (), (function, 99, pairs, shared), (function, -1, pairs, shared), ("i", 0, (), shared),
                        (function, place, pairs, ()), (function, True, pairs, shared), (function, place, ("a",), shared),
                        (function, place, (("a", "a"), ("a", "w")), shared), (function, place, pairs, shared, None)):
                if key not in table:
                    self.wrong(program, call, {**table, key: {}})
            for row in (None, [], (), [(("value", "a", shared), (0, None))], 0, "a"):
                self.wrong(program, call, {**table, entry(program, call): row})
            for end in (None, "a", (), ("value", "a"), ("value", "a", ()), ("value", "A", shared), ("none", "a", shared),
                        ("error", ("row", ()), shared)):
                self.wrong(program, call, changed(table, entry(program, call), end, (0, None)))


class Rules(Judged):
    def test_on(self):
        """One step that pays 3, ahead of the end place."""
        program = one(("pay", 3))
        first, last = ("f", 0, (), ()), ("f", 1, (), ())
        for pair, other, holds in (
                ((3, 3), (0, 0), True), ((0, 3), (0, 0), True), ((3, None), (0, 0), True), ((3, 4), (0, 0), True),
                ((4, 4), (0, 0), False), ((3, 2), (0, 0), False), ((0, 7), (0, 4), True), ((0, 6), (0, 4), False),
                ((0, None), (0, None), True), ((0, 10 ** 29), (0, None), False), ((3, 3), (1, 0), False),
                ((0, 3), (1, 3), False)):
            self.assertIs(is_price_table(program, CALL, {first: {NONE: pair}, last: {NONE: other}}), holds)

    def test_on_to_several_points(self):
        program = one(("ask", "x", ("a", "b")), ("if", ("same", "x", ("a",)), (("pay", 2),), ()), ("return", ("d",)))
        table = price_table(program, CALL)
        first, end = ("f", 0, (), ()), ("value", "d", ())
        self.assertEqual(table[first], {end: (0, 2)})
        for pair, holds in (((0, 2), True), ((0, 3), True), ((1, 2), False), ((0, 1), False), ((0, 0), False)):
            self.assertIs(is_price_table(program, CALL, changed(table, first, end, pair)), holds)

    def test_end(self):
        program, point = one(("return", ("done",))), ("f", 0, (), ())
        for row, holds in (({DONE: (0, 0)}, True), ({DONE: (0, None)}, True), ({DONE: (0, 8)}, True), ({}, False),
                           ({DONE: (1, 1)}, False), ({NONE: (0, 0)}, False), ({DONE: (0, 0), NONE: (8, 1)}, True)):
            self.assertIs(is_price_table(program, CALL, {point: row}), holds)

    def test_a_call_that_leads_back_to_a_point(self):
        program = one(("call", "x", "g", ()), ("pay", 2), ("return", ("done",)), others={"g": ((), 1, (("pay", 4),))})
        table = price_table(program, CALL)
        first, behind = ("f", 0, (), ()), ("f", 1, (("x", "none"),), ())
        self.assertEqual((table[first], table[behind]), ({DONE: (6, 6)}, {DONE: (2, 2)}))
        for pair, holds in (((6, 6), True), ((5, 6), True), ((6, 7), True), ((6, None), True), ((7, 7), False),
                            ((6, 5), False), ((0, 0), False)):
            self.assertIs(is_price_table(program, CALL, changed(table, first, DONE, pair)), holds)
        # None behind the call, and in the called frame.
        for point, end in ((behind, DONE), (("g", 0, (), ()), NONE)):
            loose = changed(table, point, end, (0, None))
            self.wrong(program, CALL, loose)
            self.wrong(program, CALL, changed(loose, first, DONE, (0, 6)))
            self.right(program, CALL, changed(loose, first, DONE, (table[first][DONE][0] - table[point][end][0], None)))

    def test_a_call_that_leads_back_to_an_end(self):
        program = one(("call", "x", "g", ()), others={"g": ((), 1, (("pay", 4), ("raise", ("oh",))))})
        table = price_table(program, CALL)
        first, inner = ("f", 0, (), ()), ("g", 0, (), ())
        self.assertEqual((table[first], table[inner]), ({OH: (4, 4)}, {OH: (4, 4)}))
        for pair, holds in (((4, 4), True), ((0, 4), True), ((4, 9), True), ((4, None), True), ((5, 5), False),
                            ((4, 3), False)):
            self.assertIs(is_price_table(program, CALL, changed(table, first, OH, pair)), holds)
        loose = changed(table, inner, OH, (4, None))
        self.wrong(program, CALL, loose)
        self.right(program, CALL, changed(loose, first, OH, (4, None)))
        self.wrong(program, CALL, {**table, first: {NONE: (4, 4)}})

    def test_an_end_of_the_called_frame_that_never_comes(self):
        """Where it leads back to must stand in the table."""
        program = one(("call", "x", "g", ()), ("return", ("done",)), others={"g": ((), 1, ())})
        table = price_table(program, CALL)
        other = ("value", "w", ())
        further = changed(table, ("g", 0, (), ()), other, (7, 0))
        self.wrong(program, CALL, further)
        self.right(program, CALL, {**further, ("f", 1, (("x", "w"),), ()): {DONE: (0, 0)}})
        self.wrong(program, CALL, {**further, ("f", 1, (("x", "w"),), ()): {DONE: (0, None)}})
        self.wrong(program, CALL, changed(table, ("g", 0, (), ()), OH, (0, 0)))
        self.right(program, CALL, changed(changed(table, ("g", 0, (), ()), OH, (3, 0)), ("f", 0, (), ()), OH, (3, 1)))

    def test_further_points_and_no_ends(self):
        for point, row, holds in ((("f", 5, (), ()), {NONE: (0, 0)}, True), (("f", 5, NO, ()), {NONE: (0, 4)}, True),
                                  (("f", 5, (), ()), {NONE: (1, 1)}, False), (("f", 5, (), ()), {}, False),
                                  (("f", 2, NO, ()), {}, False), (("f", 1, (), ()), {}, False)):
            self.assertIs(is_price_table(COIN, CALL, {**price_table(COIN, CALL), point: row}), holds)
        self.right(one(("loop", YES, ())), CALL, {("f", 0, (), ()): {}})
        self.right(one(("loop", YES, ())), CALL, {("f", 0, (), ()): {DONE: (5, 3), OH: (9, None)}})
        endless = one(("call", "x", "f", ()))
        self.right(endless, CALL, {("f", 0, (), ()): {}})
        self.wrong(endless, CALL, {("f", 0, (), ()): {NONE: (0, 0)}})
        self.right(endless, CALL, {("f", 0, (), ()): {OH: (2, 1)}})

    def test_the_entry_must_be_there(self):
        self.wrong(COIN, CALL, {})
        self.wrong(COIN, CALL, {("f", 5, (), ()): {NONE: (0, 0)}})
        table = price_table(WORD, ("f", ("a",), ()))
        self.wrong(WORD, ("f", ("b",), ()), table)


class Odd(Judged):
    def test_odd_objects(self):
        for thing in odd_objects():
            self.wrong(COIN, CALL, thing)
            self.wrong(COIN, CALL, [thing])
            self.wrong(COIN, CALL, {("f", 0, (), ()): thing})
            self.wrong(COIN, CALL, {("f", 0, (), ()): {DONE: thing}})
            if thing != 0 or isinstance(thing, bool):
                for pair in ((0, thing), (thing, 0)):
                    self.wrong(COIN, CALL, changed(price_table(COIN, CALL), ("f", 4, NO, ()), DONE, pair))
            try:
                hash(thing)
            except TypeError:
                continue
            self.wrong(COIN, CALL, {**price_table(COIN, CALL), thing: {}})
            self.wrong(COIN, CALL, changed(price_table(COIN, CALL), ("f", 0, (), ()), thing, (0, None)))

    def test_calls_that_are_none(self):
        table = price_table(COIN, CALL)
        for thing in [*odd_objects(), ["f", (), ()], ("f", [], ()), ("f", ("a",), ())]:
            self.wrong(COIN, thing, table)
            self.wrong(COIN, thing, {})

    def test_nothing_is_changed(self):
        table = price_table(COIN, CALL)
        told = repr(table)
        self.right(COIN, CALL, table)
        self.assertEqual(repr(table), told)

    def test_another_program(self):
        call = ("f", ("a", "b"), ("lo", "hi"))
        table = price_table(RICH, call)
        self.right(RICH, call, table)
        self.wrong(COIN, CALL, table)


if __name__ == "__main__":
    unittest.main()
