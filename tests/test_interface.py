"""Where the names of the interface are defined, and what they are called with: point [42]."""

import importlib
import inspect
import unittest

FUNCTIONS = {
    "texts": ["program_text(program)", "read(text)"],
    "runs": ["events(program, answers)"],
    "moments": ["start(program)"],
    "graphs": ["graph(moment, *, most=200)"],
    "questions": ["ever(program, path)", "always(program, path)", "avoids_fault(program, path, thing)", "values(program, path, name)"],
    "likeness": ["alike(one, other)", "alike_programs(one, other)", "relation_fault(one, other, thing)", "apart_fault(one, other, thing)",
                 "kinds(moment)"],
    "rewritings": ["turned(program, path)", "unrolled(program, path)", "parted(program, path)", "wrapped(program, path)",
                   "renamed(program, name, other)", "cut_out(program, path)", "needless(program)"],
    "looks": ["reached(moment)", "sharing(moment, name, other)"],
    "exchange": ["exchanged(moment, code, block)", "safe(moment, code, block)"],
}
CLASSES = {
    ("programs", "Program"): ["block(self)", "paths(self)", "codes(self)", "body(self, code)", "__len__(self)", "__getitem__(self, at)",
                              "__eq__(self, other)"],
    ("moments", "Moment"): ["event(self)", "answered(self, answer)", "shape(self)", "programs(self)", "value(self, name)",
                            "__eq__(self, other)"],
    ("sessions", "Session"): ["__init__(self, program)", "step(self)", "answer(self, answer)", "go(self)", "back(self)", "__len__(self)",
                              "path(self)", "codes(self)", "said(self)", "shape(self)", "event(self)", "look(self, e)", "moment(self)",
                              "exchange(self, code, block)", "tried(self, action)", "same_as(self, other)"],
}


class Interface(unittest.TestCase):
    def test_functions(self):
        for file, rows in FUNCTIONS.items():
            module = importlib.import_module("everyanswer." + file)
            for row in rows:
                function = getattr(module, row[:row.index("(")])
                self.assertEqual(function.__module__, module.__name__)
                self.assertEqual(function.__name__ + str(inspect.signature(function)), row)

    def test_classes(self):
        for (file, word), rows in CLASSES.items():
            one = getattr(importlib.import_module("everyanswer." + file), word)
            self.assertEqual(one.__module__, "everyanswer." + file)
            for row in rows:
                method = one.__dict__[row[:row.index("(")]]
                self.assertEqual(method.__name__ + str(inspect.signature(method)), row)


if __name__ == "__main__":
    unittest.main()
