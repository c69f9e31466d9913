"""Rank tables (7.2)."""

import unittest

from everyend.errors import BadCall, TooMany
from everyend.exploring import ends
from everyend.following import back, following
from everyend.points import end_order, entry
from everyend.prices import price_table
from everyend.ranktables import is_rank_table, rank_table
from tests.samples import COIN, WORD, odd_objects, one
from tests.small import Small
from tests.test_exploring import CALL, DONE, NONE, YES, crowd

ASK = ("ask", "x", ("a", "b"))
SAME = ("same", "x", ("a",))
OH = ("error", "oh", ())
CALLER = one(("call", "y", "g", ()), ("return", ("done",)), others={
    "g": ((), 1, (ASK, ("if", SAME, (("raise", ("oh",)),), ())))})


def lesser(program, table, point):
    """The points of a table that must have lesser ranks than this one."""
    told = following(program, point)
    if told[0] == "on":
        return told[2]
    if told[0] == "end":
        return ()
    behind = [back(program, point, end) for end in table[told[1]][1]]
    return (told[1], *[after for after in behind if len(after) == 4])


class Ranks(unittest.TestCase):
    def right(self, program, call, table):
        self.assertIs(is_rank_table(program, call, table), True)

    def wrong(self, program, call, table):
        self.assertIs(is_rank_table(program, call, table), False)


class Made(Ranks):
    def test_at_once(self):
        call, point = ("f", ("a",), ()), ("f", 0, (("a", "a"),), ())
        table = rank_table(WORD, call)
        self.assertEqual(list(table), [point])
        rank, row = table[point]
        self.assertEqual((rank >= 0, list(row)), (True, [("error", "a", ())]))

    def test_points_and_ends(self):
        table = rank_table(CALLER, CALL)
        self.right(CALLER, CALL, table)
        self.assertIsInstance(table, dict)
        self.assertEqual({point: list(row) for point, (_, row) in table.items()}, {
            ("f", 0, (), ()): [OH, DONE], ("f", 1, (("y", "none"),), ()): [DONE],
            ("g", 0, (), ()): [OH, NONE], ("g", 1, (("x", "a"),), ()): [OH], ("g", 1, (("x", "b"),), ()): [NONE],
            ("g", 2, (("x", "a"),), ()): [OH], ("g", 3, (("x", "b"),), ()): [NONE]})
        for pair in table.values():
            self.assertIsInstance(pair, tuple)
            self.assertIs(type(pair[0]), int)

    def test_the_order_of_the_ends(self):
        program = one(("ask", "x", ("c", "b", "a")), ("share", "s", "x"), ("ask", "y", ("v", "u")), ("share", "t", "y"),
                      ("if", ("same", "x", ("b",)), (("raise", "y"),), ()), ("push", "r", ("none",), "x"),
                      ("if", SAME, (("return", "x"),), ()), ("return", "r"), shared={"s": "w", "t": "w"})
        call = ("f", (), ("w", "w"))
        table = rank_table(program, call)
        self.right(program, call, table)
        for point, (_, row) in table.items():
            self.assertEqual(list(row), sorted(row, key=end_order))
        self.assertEqual(list(table[entry(program, call)][1]), ends(program, call))
        self.assertEqual([(end[0], end[2]) for end in ends(program, call)], [
            ("error", ("b", "u")), ("error", ("b", "v")), ("value", ("c", "u")), ("value", ("c", "v")),
            ("value", ("a", "u")), ("value", ("a", "v"))])

    def test_none(self):
        for program in (COIN, one(("loop", YES, ())), one(("call", "y", "f", ())), one(ASK, ("loop", SAME, (ASK,)))):
            self.assertIsNone(rank_table(program, CALL))

    def test_new_each_time(self):
        rank_table(CALLER, CALL).clear()
        self.assertEqual(len(rank_table(CALLER, CALL)), 7)

    def test_errors_in_order(self):
        for thing in odd_objects():
            self.assertRaises(BadCall, rank_table, crowd(9), thing)
        with self.assertRaises(TooMany) as caught:
            rank_table(crowd(9), CALL)
        self.assertEqual(caught.exception.most, 3000)
        table = rank_table(crowd(8), CALL)
        self.assertEqual(len(table), 3000)
        self.right(crowd(8), CALL, table)


class SmallPrograms(Ranks):
    """The tables of small programs, loosened and spoiled."""

    @classmethod
    def setUpClass(cls):
        cls.told = []
        for seed in range(300):
            small = Small(seed)
            table = rank_table(small.program, small.call)
            if table is not None:
                cls.told.append((small.program, small.call, table))

    def test_right_ones(self):
        for program, call, table in self.told:
            self.right(program, call, table)
            self.right(program, call, {point: (7 + 3 * rank, list(row)) for point, (rank, row) in table.items()})
            self.right(program, call, {point: (rank * 10 ** 27, tuple(row)[::-1]) for point, (rank, row) in table.items()})
            prices = price_table(program, call)
            self.assertEqual({point: set(row) for point, (_, row) in table.items()},
                             {point: set(row) for point, row in prices.items()})

    def test_ranks(self):
        """A point needs a greater rank than each of those that follow, and no other one."""
        for program, call, table in self.told:
            for point, (rank, row) in table.items():
                for other in lesser(program, table, point):
                    for much, holds in ((0, False), (1, True)):
                        ranks = {key: (2 * (10 + value[0]), value[1]) for key, value in table.items()}
                        least = max(ranks[after][0] for after in lesser(program, table, point))
                        self.assertEqual(is_rank_table(program, call, {**ranks, point: (least + much, row)}), holds)
                    self.wrong(program, call, {**table, point: (table[other][0], row)})

    def test_a_point_that_is_missing(self):
        for program, call, table in self.told:
            for point in table:
                self.wrong(program, call, {key: pair for key, pair in table.items() if key != point})

    def test_ends_that_are_missing_or_twice(self):
        for program, call, table in self.told:
            for point, (rank, row) in table.items():
                for at, end in enumerate(row):
                    self.wrong(program, call, {**table, point: (rank, [*row[:at], *row[at + 1:]])})
                    self.wrong(program, call, {**table, point: (rank, [*row, end])})
                    self.wrong(program, call, {**table, point: (rank, (end, *row))})

    def test_further_ends_at_the_entry(self):
        for program, call, table in self.told:
            first = entry(program, call)
            rank, row = table[first]
            for end in (("error", "further", ("w",)), ("value", "further", ("w",))):
                self.right(program, call, {**table, first: (rank, (*row, end))})

    def test_forms(self):
        for program, call, table in self.told[:60]:
            first = entry(program, call)
            rank, row = table[first]
            for pair in ([rank, row], (rank,), (rank, row, row), (-1, row), (True, row), (False, row), (None, row),
                         (str(rank), row), ((rank,), row), (rank, {end: True for end in row}), (rank, None), None, row,
                         (rank, [*row, None]), (rank, [*row, ["error", "a", ("w",)]]), (rank, [*row, ("error", "a", ())]),
                         (rank, [*row, ("error", "a", ["w"])]), (rank, "ab"), (rank, 0), (), {}):
                self.wrong(program, call, {**table, first: pair})
            function, place, pairs, shared = first
            for key in (None, "f", (), (function, 99, pairs, shared), (function, True, pairs, shared),
                        (function, place, pairs, ()), (function, place, ("a",), shared)):
                if key not in table:
                    self.wrong(program, call, {**table, key: (0, ())})


class Rules(Ranks):
    def test_on(self):
        program = one(("pay", 3))
        first, last = ("f", 0, (), ()), ("f", 1, (), ())
        for pair, other, holds in (((1, [NONE]), (0, [NONE]), True), ((9, [NONE, OH]), (8, (NONE,)), True),
                                   ((0, [NONE]), (0, [NONE]), False), ((0, [NONE]), (1, [NONE]), False),
                                   ((1, [NONE]), (0, [NONE, OH]), False), ((1, [OH, NONE]), (0, [NONE, OH]), True),
                                   ((1, [OH]), (0, [NONE]), False), ((1, [NONE]), (0, [OH]), False)):
            self.assertIs(is_rank_table(program, CALL, {first: pair, last: other}), holds)

    def test_end(self):
        program, point = one(("return", ("done",))), ("f", 0, (), ())
        for row, holds in (([DONE], True), ((DONE,), True), ([], False), ([NONE], False), ([NONE, DONE], True),
                           ([DONE, DONE], False)):
            self.assertIs(is_rank_table(program, CALL, {point: (0, row)}), holds)

    def test_call(self):
        table = {("f", 0, (), ()): (9, [OH, DONE]), ("f", 1, (("y", "none"),), ()): (8, [DONE]),
                 ("g", 0, (), ()): (8, [OH, NONE]), ("g", 1, (("x", "a"),), ()): (7, [OH]),
                 ("g", 1, (("x", "b"),), ()): (7, [NONE]), ("g", 2, (("x", "a"),), ()): (6, [OH]),
                 ("g", 3, (("x", "b"),), ()): (0, [NONE])}
        self.right(CALLER, CALL, table)
        first, behind, inner = list(table)[:3]
        for point, pair, holds in (
                (first, (8, [OH, DONE]), False), (first, (9, [DONE]), False), (first, (9, [OH]), False),
                (first, (9, [OH, DONE, NONE]), True), (behind, (9, [DONE]), False), (behind, (0, [DONE]), True),
                (behind, (0, []), False), (behind, (0, [DONE, NONE]), False), (inner, (9, [OH, NONE]), False),
                (inner, (8, [OH]), False), (inner, (8, [NONE]), False), (inner, (8, [OH, NONE, ("error", "ah", ())]), False),
                (inner, (8, [OH, NONE, ("value", "v", ())]), False)):
            self.assertIs(is_rank_table(CALLER, CALL, {**table, point: pair}), holds)
        # An end of the called frame that never comes leads back to a point that stands in the table.
        wide = {**table, inner: (8, [OH, NONE, ("value", "v", ())])}
        self.right(CALLER, CALL, {**wide, ("f", 1, (("y", "v"),), ()): (8, [DONE])})
        self.wrong(CALLER, CALL, {**wide, ("f", 1, (("y", "v"),), ()): (9, [DONE])})

    def test_further_points(self):
        table = rank_table(CALLER, CALL)
        self.right(CALLER, CALL, {**table, ("f", 2, (), ()): (0, [NONE])})
        self.wrong(CALLER, CALL, {**table, ("f", 2, (), ()): (0, [DONE])})
        self.wrong(CALLER, CALL, {**table, ("g", 1, (), ()): (5, [NONE, OH])})

    def test_rings(self):
        for rank in (0, 1, 10 ** 29):
            self.wrong(one(("loop", YES, ())), CALL, {("f", 0, (), ()): (rank, [])})
            self.wrong(one(("call", "y", "f", ())), CALL, {("f", 0, (), ()): (rank, [])})

    def test_the_entry_must_be_there(self):
        self.wrong(CALLER, CALL, {})
        self.wrong(CALLER, CALL, {("f", 2, (), ()): (0, [NONE])})
        self.wrong(WORD, ("f", ("b",), ()), rank_table(WORD, ("f", ("a",), ())))

    def test_odd_objects(self):
        table, first = rank_table(CALLER, CALL), ("f", 0, (), ())
        for thing in odd_objects():
            for pair in (thing, (9, thing), (9, [OH, DONE, thing]), (9, (thing,))):
                self.wrong(CALLER, CALL, {**table, first: pair})
            self.wrong(CALLER, CALL, thing)
            self.wrong(CALLER, CALL, [thing])
            if isinstance(thing, bool) or not isinstance(thing, int) or thing < 2:
                self.wrong(CALLER, CALL, {**table, first: (thing, [OH, DONE])})
            try:
                self.wrong(CALLER, CALL, {**table, thing: (0, [])})
            except TypeError:
                continue

    def test_calls_that_are_none(self):
        for thing in [*odd_objects(), ["f", (), ()], ("f", [], ())]:
            self.wrong(CALLER, thing, rank_table(CALLER, CALL))
            self.wrong(CALLER, thing, {})

    def test_nothing_is_changed(self):
        table = {point: (rank, list(row)) for point, (rank, row) in rank_table(CALLER, CALL).items()}
        told = repr(table)
        self.right(CALLER, CALL, table)
        self.assertEqual(repr(table), told)


if __name__ == "__main__":
    unittest.main()
