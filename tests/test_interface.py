"""Everything that the interface lists exists under its name, with its arguments."""

import importlib
import inspect
import unittest

FUNCTIONS = {
    "weighing": {"told": ["places", "ties"]},
    "rows": {"row_of": ["places", "ties"], "by_row": ["row"], "by_counts": ["counts"]},
    "kinds": {"kind_by": ["places", "number"], "number_of": ["places", "ties"]},
    "crowds": {"crowd": ["places", "ties"], "lonely": ["places", "ties"]},
}
ANSWERS = {
    "Weighed": ["weights", "bound"], "Barred": ["four"], "Crowd": ["some", "groups"], "Lonely": ["some", "groups"],
}
ERRORS = ["BadPlaces", "BadTies", "BadRow", "BadCounts", "BadNumber", "NoTip"]


def listed_in(name):
    return importlib.import_module("tipwebs." + name)


class InterfaceTest(unittest.TestCase):
    def test_functions(self):
        for name, functions in FUNCTIONS.items():
            for function, arguments in functions.items():
                found = getattr(listed_in(name), function)
                self.assertEqual(list(inspect.signature(found).parameters), arguments)
                self.assertEqual(found.__module__, "tipwebs." + name)

    def test_answers(self):
        answers = listed_in("answers")
        for name, fields in ANSWERS.items():
            found = getattr(answers, name)
            self.assertEqual(found.__bases__, (answers.Answer,))
            self.assertEqual(list(inspect.signature(found).parameters), fields)
            self.assertEqual(list(inspect.signature(vars(found)["shows"]).parameters), ["self", "places", "ties"])
            self.assertIn("__init__", vars(found))

    def test_errors(self):
        errors = listed_in("errors")
        self.assertEqual(errors.TipError.__bases__, (ValueError,))
        for name in ERRORS:
            self.assertEqual(getattr(errors, name).__bases__, (errors.TipError,))

    def test_arguments_by_name(self):
        self.assertEqual(listed_in("rows").row_of(places=1, ties=[]), [(0, False)])
        self.assertEqual(listed_in("rows").by_row(row=[(0, False)]), [])
        self.assertEqual(listed_in("rows").by_counts(counts=[0]), [])
        self.assertEqual(listed_in("kinds").kind_by(places=2, number=1), [(0, 1)])
        self.assertEqual(listed_in("kinds").number_of(places=2, ties=[(0, 1)]), 1)
        for name in ["crowd", "lonely"]:
            self.assertEqual(getattr(listed_in("crowds"), name)(places=1, ties=[]).some, [0])
        self.assertTrue(listed_in("weighing").told(places=1, ties=[]).shows(places=1, ties=[]))


if __name__ == "__main__":
    unittest.main()
