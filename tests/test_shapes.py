"""The shape of a moment, by which runs that go on for ever are told: points [24] and [25]."""

import unittest

from helping import lines
from making import answers, made, made_flow

from everyanswer.machines import started
from everyanswer.runs import lead
from everyanswer.errors import TooMany
from everyanswer.shapes import has_shape, machine_at, shape_of
from everyanswer.texts import read

NONE_YET = ((), ())


def shape(*rows, steps=None):
    """The shape at the first question, or behind so many steps."""
    machine = started(read(lines(*rows)))
    if steps is None:
        lead(machine)
    else:
        for _ in range(steps):
            machine.step()
    return shape_of(machine.frames)


class Shapes(unittest.TestCase):
    def test_ahead_of_the_first_statement(self):
        self.assertEqual(shape("say 1", steps=0), (((0, (0,), 0, (), None, None),), (("scope", None, ()),)))

    def test_over(self):
        self.assertEqual(shape(""), NONE_YET)
        self.assertEqual(shape("say 1"), NONE_YET)
        self.assertEqual(shape("raise 1"), NONE_YET)
        self.assertEqual(shape("while yes\n  say 1"), NONE_YET)

    def test_plain_values(self):
        found = shape("let b = none", "let a = yes", "let d = no", "let c = 1", "let e = 'one'", "let f = 'none'", "ask a 'q'")
        names = (("a", ("yes",)), ("b", None), ("c", 1), ("d", ("no",)), ("e", "one"), ("f", "none"))
        self.assertEqual(found, (((0, (6,), 0, (), None, None),), (("scope", None, names),)))

    def test_lists_and_tables(self):
        found = shape("let a = [1, [2]]", "add a, a", "let b = {1: a, yes: []}", "ask a 'q'")
        things = (("scope", None, (("a", ("thing", 1)), ("b", ("thing", 2)))), ("list", (1, ("thing", 3), ("thing", 1))),
                  ("table", ((1, ("thing", 1)), (("yes",), ("thing", 4)))), ("list", (2,)), ("list", ()))
        self.assertEqual(found, (((0, (3,), 0, (), None, None),), things))

    def test_functions_and_frames(self):
        found = shape("def f(x)", "  def g()", "    ask x 'q'", "  if yes", "    call g()", "call f([])")
        frames = ((0, (1,), 0, (), None, None), (0, (0, 0, 1, 0, 0), 1, (), None, None), (0, (0, 0, 0, 0, 0), 2, (), None, None))
        things = (("scope", None, (("f", ("thing", 3)),)), ("scope", 0, (("g", ("thing", 4)), ("x", ("thing", 5)))),
                  ("scope", 1, ()), ("function", 0, (0, 0), 0, None), ("function", 0, (0, 0, 0, 0), 1, None), ("list", ()))
        self.assertEqual(found, (frames, things))

    def test_classes_and_objects(self):
        found = shape("class k", "  def z(self)", "  def make(self)", "    put self.b = 1", "    put self.a = self.z",
                      "    ask x 'q'", "class j over k", "call j()")
        frames = ((0, (2,), 0, (), None, None), (0, (0, 1, 2), 1, (), 2, 3))
        things = (("scope", None, (("j", ("thing", 4)), ("k", ("thing", 3)))), ("scope", 0, (("self", ("thing", 2)),)),
                  ("object", 4, (("a", ("thing", 5)), ("b", 1))), ("class", None, (("make", 6), ("z", 7))),
                  ("class", 3, ()), ("bound", 2, 7), ("function", 0, (0, 1), 0, 3), ("function", 0, (0, 0), 0, 3))
        self.assertEqual(found, (frames, things))

    def test_what_is_kept(self):
        inner = ["try", "  {}", "last", "  ask x 'q'"]
        for row, want in (("let a = 1", ("on",)), ("give [1]", ("give", ("thing", 2))), ("raise yes", ("raise", ("yes",))),
                          ("leave", ("leave",)), ("say nobody", ("raise", "unset")), ("give none", ("give", None))):
            rows = ["    " + one.format(row) for one in inner]
            frames, things = shape("def f()", "  while yes", *rows, "call f()")
            self.assertEqual(frames[1][1], (0, 0, 0, 0, 0, 2, 0))
            self.assertEqual(frames[1][3], (want,))
            if row == "give [1]":
                self.assertEqual(things[2], ("list", (1,)))

    def test_the_outermost_first(self):
        rows = ["def f()", "  while yes", "    try", "      give 1", "    last", "      try", "        raise 2", "      last",
                "        try", "        last", "          ask x 'q'", "call f()"]
        self.assertEqual(shape(*rows)[0][1][3], (("give", 1), ("raise", 2), ("on",)))
        rows = ["try", "  try", "  last", "    ask x 'q'", "last", "  say 1"]
        self.assertEqual(shape(*rows)[0][0][3], (("on",),))

    def test_things_that_cannot_be_come_to(self):
        self.assertEqual(shape("let a = [[]]", "let b = a[0]", "let a = 1", "ask a 'q'")[1],
                         (("scope", None, (("a", 1), ("b", ("thing", 1)))), ("list", ())))

    def test_kept_values_are_met_ahead_of_what_the_frame_makes(self):
        found = shape("class k", "  def make(self)", "    let self = 1", "    try", "      give []", "    last", "      ask x 'q'",
                      "call k()")
        self.assertEqual(found[0][1], (0, (0, 0, 1, 2, 0), 1, (("give", ("thing", 2)),), 3, 4))
        self.assertEqual(found[1][2:4], (("list", ()), ("object", 4, ())))


class Machines(unittest.TestCase):
    """A machine that is made for a shape goes on like the one that had it."""

    def test_random_runs(self):
        for seed in range(60):
            for program in (made(seed), made_flow(seed)):
                self.compare(program, answers(seed))

    def compare(self, program, row):
        machine = started(program)
        for count in range(120):
            if machine.over is not None:
                return
            found = shape_of(machine.frames)
            other = machine_at([program], found)
            self.assertEqual(shape_of(other.frames), found)
            self.assertTrue(has_shape(machine.frames, found))
            self.assertEqual(other.event(), machine.event())
            self.assertEqual([frame.first for frame in other.frames], [frame.first for frame in machine.frames])
            self.go_on(machine, row, count)
            self.go_on(other, row, count)
            self.assertEqual(other.take_told(), machine.take_told())
            self.assertEqual(other.over, machine.over)
            self.assertEqual(shape_of(other.frames), shape_of(machine.frames))
            self.assertEqual(has_shape(machine.frames, found), shape_of(machine.frames) == found)

    def go_on(self, machine, row, count):
        if machine.event() is None:
            machine.step()
        else:
            machine.answer(count % 2 == len(row) % 2)

    def test_each_kind_of_thing(self):
        rows = ["class k", "  def m(self, x)", "    let y = [x, {1: x}, self.m, [k.m, f]]", "    try", "      raise y", "    last",
                "      ask x 'q'", "class j over k", "  def make(self, o)", "    put o.j = self", "    call o.m({})", "def f(a)",
                "  let o = call k()", "  call j(o)", "call f(1)"]
        program = read(lines(*rows))
        machine = started(program)
        self.assertEqual(lead(machine), ([], ("ask", "q")))
        found = shape_of(machine.frames)
        words = sorted({row[0] for row in found[1]})
        self.assertEqual(words, ["bound", "class", "function", "list", "object", "scope", "table"])
        other = machine_at([program], found)
        self.assertEqual(shape_of(other.frames), found)
        self.assertEqual([frame.first for frame in other.frames], [None, "a", "self", "self"])

    def test_led_ones(self):
        for seed in range(60):
            program = made_flow(seed)
            machine = started(program)
            try:
                lead(machine)
                if machine.over is not None:
                    continue
                other = machine_at([program], shape_of(machine.frames))
                machine.answer(True)
                other.answer(True)
                self.assertEqual(lead(other), lead(machine))
            except TooMany:
                continue


if __name__ == "__main__":
    unittest.main()
