"""What is told of all runs of many small programs, against searches through their runs (tests/searcher.py)."""

import unittest
from unittest import mock

from everyend.errors import Grows, TooLong
from everyend.exploring import can_come, ends, reached
from everyend.goingon import always_ends, going_on, is_going_on, longest
from everyend.growing import growing, is_growing
from everyend.papers import cheapest, dearest, fewest_steps
from everyend.plain import plain
from everyend.points import end_order, entry
from everyend.pricejudge import is_price_table
from everyend.prices import greatest, least, price_table
from everyend.ranktables import is_rank_table, rank_table
from everyend.runs import ran
from tests.searcher import Search, TooFar, answers_of, has_ended, is_pumped, stays, walks
from tests.small import Small


class All(unittest.TestCase):
    """Over programs whose runs may be many and deep: tables and papers show each other to be right."""

    @classmethod
    def setUpClass(cls):
        cls.smalls = [Small(seed) for seed in range(1500)]

    def test_prices_and_papers(self):
        grown = 0
        for small in self.smalls:
            program, call = small.program, small.call
            table = price_table(program, call)
            self.assertIs(is_price_table(program, call, table), True)
            self.assertEqual(reached(program, call), len(table))
            row = table[entry(program, call)]
            self.assertEqual(ends(program, call), sorted(row, key=end_order))
            for end, (low, high) in row.items():
                self.assertIs(can_come(program, call, end), True)
                self.assertEqual((least(program, call, end), greatest(program, call, end)), (low, high))
                self.assertEqual(ran(program, call, cheapest(program, call, end))[:2], (end, low))
                paper = growing(program, call, end)
                if high is None:
                    grown += 1
                    self.assertIs(is_growing(program, call, end, paper), True)
                    self.assertRaises(Grows, dearest, program, call, end)
                else:
                    self.assertIsNone(paper)
                    self.assertEqual(ran(program, call, dearest(program, call, end))[:2], (end, high))
        self.assertGreater(grown, 50)

    def test_going_on(self):
        told = {True: 0, False: 0}
        for small in self.smalls:
            program, call = small.program, small.call
            ranks, paper = rank_table(program, call), going_on(program, call)
            does_end = always_ends(program, call)
            told[does_end] += 1
            self.assertEqual((ranks is not None, paper is None, longest(program, call) is not None), (does_end,) * 3)
            if does_end:
                self.assertIs(is_rank_table(program, call, ranks), True)
                prices = price_table(program, call)
                self.assertEqual({point: list(row) for point, (_, row) in ranks.items()},
                                 {point: sorted(row, key=end_order) for point, row in prices.items()})
            else:
                self.assertIs(is_going_on(program, call, paper), True)
        self.assertGreater(min(told.values()), 200)

    def test_lasts_are_those_of_the_plain_program(self):
        seen = 0
        for small in self.smalls[:600]:
            if plain(small.program) != small.program:
                seen += 1
                for told in (price_table, rank_table, going_on, longest):
                    self.assertEqual(told(small.program, small.call), told(plain(small.program), small.call))
        self.assertGreater(seen, 20)


class Few(unittest.TestCase):
    """Over programs whose runs meet few states: all of these are searched."""

    @classmethod
    def setUpClass(cls):
        smalls = [Small(seed) for seed in range(1500)]
        cls.told = [(small.program, small.call, Search(small.program, small.call)) for small in smalls]
        cls.told = [told for told in cls.told if told[2].edges is not None]

    def test_points_and_ends(self):
        for program, call, search in self.told:
            table = price_table(program, call)
            self.assertEqual(search.points(), set(table))
            for state in search.edges:
                if len(state) == 1:
                    self.assertEqual(search.ends_from(state), set(table[state[0]]))

    def test_cheapest_dearest_and_shortest(self):
        grown = kept = 0
        for program, call, search in self.told:
            fewest, cheap = search.fewest_steps(), search.cheapest()
            for end in ends(program, call):
                self.assertEqual(fewest_steps(program, call, end), fewest[end])
                self.assertEqual(ran(program, call, cheapest(program, call, end)), (end, *cheap[end]))
                grows = search.grows(end)
                self.assertEqual(greatest(program, call, end) is None, grows)
                if grows:
                    grown += 1
                elif len(search.edges) < 60:
                    kept += 1
                    self.assertEqual(ran(program, call, dearest(program, call, end)), (end, *search.dearest(end)))
        self.assertGreater(grown, 30)
        self.assertGreater(kept, 500)

    def test_going_on_and_longest(self):
        for program, call, search in self.told:
            self.assertEqual(always_ends(program, call), not search.goes_on())
            if not search.goes_on():
                self.assertEqual(longest(program, call), search.longest())


class Walked(unittest.TestCase):
    """Papers, against all begins of runs of few steps."""

    def walked(self, many, most, budget):
        for seed in range(many):
            small = Small(seed)
            try:
                yield small.program, small.call, list(walks(small.program, small.call, most, budget))
            except TooFar:
                continue

    def test_judges(self):
        """All pairs of steps of some runs are judged as the document's words say."""
        told = {True: 0, False: 0}
        for program, call, found in self.walked(150, 14, 4000):
            for walk in found[::5]:
                answers, steps, end = answers_of(program, call, walk), len(walk) - 1, walk[-1][1]
                for low in range(steps):
                    if not has_ended(end):
                        right = stays(walk, low, steps)
                        self.assertIs(is_going_on(program, call, (answers, low, steps)), right)
                        told[right] += 1
                    for high in range(low + 1, steps) if has_ended(end) else ():
                        right = is_pumped(program, walk, low, high)
                        self.assertIs(is_growing(program, call, end, (answers, low, high)), right)
                        told[right] += 1
        self.assertGreater(told[True], 100)
        self.assertGreater(told[False], 10000)

    def within(self, module, most, told, *arguments):
        """What a function tells if papers have at most so many steps; "long" for TooLong."""
        with mock.patch(f"everyend.{module}.MOST_STEPS", most):
            try:
                return told(*arguments)
            except TooLong:
                return "long"

    def test_growing_papers_are_found_if_there_is_one(self):
        seen = 0
        for program, call, found in self.walked(700, 18, 8000):
            growers = [end for end in ends(program, call) if greatest(program, call, end) is None]
            for end in growers:
                sizes = [len(walk) - 1 for walk in found if walk[-1][1] == end
                         and any(is_pumped(program, walk, low, high)
                                 for high in range(len(walk) - 1) for low in range(high))]
                fewest = min(sizes, default=19)
                self.assertEqual(self.within("growing", fewest - 1, growing, program, call, end), "long")
                if sizes:
                    seen += 1
                    paper = self.within("growing", fewest, growing, program, call, end)
                    self.assertTrue(is_growing(program, call, end, paper))
                    self.assertEqual(ran(program, call, paper[0])[2], fewest)
        self.assertGreater(seen, 10)

    def test_going_on_papers_are_found_if_there_is_one(self):
        seen = 0
        for program, call, found in self.walked(300, 14, 4000):
            if not always_ends(program, call):
                sizes = [len(walk) - 1 for walk in found if not has_ended(walk[-1][1])
                         and any(stays(walk, low, len(walk) - 1) for low in range(len(walk) - 1))]
                fewest = min(sizes, default=15)
                self.assertEqual(self.within("goingon", fewest - 1, going_on, program, call), "long")
                if sizes:
                    seen += 1
                    paper = self.within("goingon", fewest, going_on, program, call)
                    self.assertTrue(is_going_on(program, call, paper))
                    self.assertEqual(paper[2], fewest)
        self.assertGreater(seen, 50)


if __name__ == "__main__":
    unittest.main()
