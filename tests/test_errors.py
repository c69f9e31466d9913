"""The errors (0.3)."""

import inspect
import unittest

from everyend import errors
from everyend.errors import EndError
from tests.samples import odd_objects

WITHOUT = ("BadValue", "BadCall", "BadPoint", "BadEnd", "HasEnded", "BadAnswer", "BadNumber", "TooLong",
           "NeverComes", "Grows", "BadShared", "BadNames", "BadWords", "BadName", "BadTable",
           "NoLine", "NoRun", "NothingDone")
WITH = {"BadProgram": "part", "NoName": "name", "BadAnswers": "index", "TooMany": "most",
        "BadText": "line"}


class Errors(unittest.TestCase):
    def test_all_are_there(self):
        told = {name for name, _ in inspect.getmembers(errors, inspect.isclass)}
        self.assertEqual(told, {"EndError", *WITHOUT, *WITH})
        self.assertEqual(len(told), 24)

    def test_bases(self):
        self.assertEqual(EndError.__bases__, (ValueError,))
        for name in (*WITHOUT, *WITH):
            self.assertEqual(getattr(errors, name).__bases__, (EndError,), name)

    def test_without_parts(self):
        for name in WITHOUT:
            made = getattr(errors, name)
            self.assertIsInstance(made(), EndError)
            with self.assertRaises(TypeError):
                made("a")

    def test_with_a_part(self):
        for name, attribute in WITH.items():
            made = getattr(errors, name)
            for thing in odd_objects():
                self.assertTrue(getattr(made(thing), attribute) is thing)
            with self.assertRaises(TypeError):
                made()
            with self.assertRaises(TypeError):
                made("a", "b")

    def test_message(self):
        self.assertEqual(str(errors.BadProgram("block f")), "block f")


if __name__ == "__main__":
    unittest.main()
