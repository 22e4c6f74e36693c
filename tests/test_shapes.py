"""The shape of a moment: points [24] and [25]; and machines that are made for one."""

import unittest

from helping import at, lines, shape, things
from making import answers, made, made_flow

from everyanswer.errors import TooMany
from everyanswer.machines import started
from everyanswer.runs import lead
from everyanswer.shapes import has_shape, machine_at, shape_of
from everyanswer.texts import read

NOWHERE = ((), ())


def stepped(many, *rows):
    """The shape behind so many steps."""
    machine = started(read(lines(*rows)))
    for _ in range(many):
        machine.step()
    return shape_of(machine.frames)


class Shapes(unittest.TestCase):
    def test_ahead_of_the_first_statement(self):
        self.assertEqual(stepped(0, "say 1"), (((0, (0,), 0, (), None, None),), (("scope", None, ()),)))

    def test_over(self):
        self.assertEqual(shape(""), NOWHERE)
        self.assertEqual(shape("say 1"), NOWHERE)
        self.assertEqual(shape("raise 1"), NOWHERE)
        self.assertEqual(shape("while yes\n  say 1"), NOWHERE)

    def test_plain_values(self):
        found = shape("let b = none", "let a = yes", "let d = no", "let c = 1", "let e = 'one'", "let f = 'none'", "ask a 'q'")
        names = (("a", ("yes",)), ("b", None), ("c", 1), ("d", ("no",)), ("e", "one"), ("f", "none"))
        self.assertEqual(found, (((0, (6,), 0, (), None, None),), (("scope", None, names),)))

    def test_lists_and_tables(self):
        found = shape("let a = [1, [2]]", "add a, a", "let b = {1: a, yes: []}", "ask a 'q'")
        things = (("scope", None, (("a", ("thing", 1)), ("b", ("thing", 2)))), ("list", (1, ("thing", 3), ("thing", 1))),
                  ("table", ((1, ("thing", 1)), (("yes",), ("thing", 4)))), ("list", (2,)), ("list", ()))
        self.assertEqual(found, (((0, (3,), 0, (), None, None),), things))

    def test_functions_and_frames(self):
        found = shape("def f(x)", "  def g()", "    ask x 'q'", "  if yes", "    call g()", "call f([])")
        frames = ((0, (1,), 0, (), None, None), (0, (0, 0, 1, 0, 0), 1, (), None, None), (0, (0, 0, 0, 0, 0), 2, (), None, None))
        things = (("scope", None, (("f", ("thing", 3)),)), ("scope", 0, (("g", ("thing", 4)), ("x", ("thing", 5)))),
                  ("scope", 1, ()), ("function", 0, (0, 0), 0, None), ("function", 0, (0, 0, 0, 0), 1, None), ("list", ()))
        self.assertEqual(found, (frames, things))

    def test_classes_and_objects(self):
        found = shape("class k", "  def z(self)", "  def make(self)", "    put self.b = 1", "    put self.a = self.z",
                      "    ask x 'q'", "class j over k", "call j()")
        frames = ((0, (2,), 0, (), None, None), (0, (0, 1, 2), 1, (), 2, 3))
        things = (("scope", None, (("j", ("thing", 4)), ("k", ("thing", 3)))), ("scope", 0, (("self", ("thing", 2)),)),
                  ("object", 4, (("a", ("thing", 5)), ("b", 1))), ("class", None, (("make", 6), ("z", 7))),
                  ("class", 3, ()), ("bound", 2, 7), ("function", 0, (0, 1), 0, 3), ("function", 0, (0, 0), 0, 3))
        self.assertEqual(found, (frames, things))

    def test_what_is_kept(self):
        inner = ["try", "  {}", "last", "  ask x 'q'"]
        for row, want in (("let a = 1", ("on",)), ("give [1]", ("give", ("thing", 2))), ("raise yes", ("raise", ("yes",))),
                          ("leave", ("leave",)), ("say nobody", ("raise", "unset")), ("give none", ("give", None))):
            rows = ["    " + one.format(row) for one in inner]
            frames, things = shape("def f()", "  while yes", *rows, "call f()")
            self.assertEqual(frames[1][1], (0, 0, 0, 0, 0, 2, 0))
            self.assertEqual(frames[1][3], (want,))
            if row == "give [1]":
                self.assertEqual(things[2], ("list", (1,)))

    def test_the_outermost_first(self):
        rows = ["def f()", "  while yes", "    try", "      give 1", "    last", "      try", "        raise 2", "      last",
                "        try", "        last", "          ask x 'q'", "call f()"]
        self.assertEqual(shape(*rows)[0][1][3], (("give", 1), ("raise", 2), ("on",)))
        rows = ["try", "  try", "  last", "    ask x 'q'", "last", "  say 1"]
        self.assertEqual(shape(*rows)[0][0][3], (("on",),))

    def test_things_that_cannot_be_come_to(self):
        self.assertEqual(shape("let a = [[]]", "let b = a[0]", "let a = 1", "ask a 'q'")[1],
                         (("scope", None, (("a", 1), ("b", ("thing", 1)))), ("list", ())))

    def test_kept_values_are_met_ahead_of_what_the_frame_makes(self):
        found = shape("class k", "  def make(self)", "    let self = 1", "    try", "      give []", "    last", "      ask x 'q'",
                      "call k()")
        self.assertEqual(found[0][1], (0, (0, 0, 1, 2, 0), 1, (("give", ("thing", 2)),), 3, 4))
        self.assertEqual(found[1][2:4], (("list", ()), ("object", 4, ())))


class Things(unittest.TestCase):
    """Things, one kind after the other; thing 0 is the scope of the bottom frame."""

    def test_scopes(self):
        rows = ["def f(y, x)", "  let a = 1", "  ask a 'q'", "let c = 2", "call f(3, 4)"]
        found = shape(*rows)
        self.assertEqual(found[0], ((0, (2,), 0, (), None, None), (0, (0, 0, 1), 1, (), None, None)))
        self.assertEqual(found[1], (("scope", None, (("c", 2), ("f", ("thing", 2)))),
                                    ("scope", 0, (("a", 1), ("x", 4), ("y", 3))), ("function", 0, (0, 0), 0, None)))

    def test_the_scope_around_is_where_the_function_was_made(self):
        rows = ["def f(x)", "  def g()", "    let y = 1", "    ask x 'q'", "  give g", "let g = call f(1)", "let h = call f(2)",
                "def m(z)", "  call g()", "call m(3)"]
        frames, told = shape(*rows)
        self.assertEqual([frame[1:3] for frame in frames], [((4,), 0), ((3, 0, 0), 1), ((0, 0, 0, 0, 1), 2)])
        self.assertEqual(told, (
            ("scope", None, (("f", ("thing", 3)), ("g", ("thing", 4)), ("h", ("thing", 5)), ("m", ("thing", 6)))),
            ("scope", 0, (("z", 3),)), ("scope", 7, (("y", 1),)), ("function", 0, (0, 0), 0, None),
            ("function", 0, (0, 0, 0, 0), 7, None), ("function", 0, (0, 0, 0, 0), 8, None), ("function", 0, (3, 0), 0, None),
            ("scope", 0, (("g", ("thing", 4)), ("x", 1))), ("scope", 0, (("g", ("thing", 5)), ("x", 2)))))

    def test_scopes_of_frames_that_have_ended(self):
        ended = ["def f(x)", "  let y = [x]", "call f(1)", "let a = 1", "ask a 'q'"]
        self.assertEqual(len(things(*ended)), 2)
        kept = ["def f(x)", "  def g()", "    say x", "  give g", "let f = call f(1)", "let a = 1", "ask a 'q'"]
        self.assertEqual([thing[0] for thing in things(*kept)], ["scope", "function", "scope"])

    def test_lists(self):
        self.assertEqual(things("let a = [none, yes, no, 7]", "add a, 'x'", "add a, []", "ask a 'q'"),
                         (("scope", None, (("a", ("thing", 1)),)),
                          ("list", (None, ("yes",), ("no",), 7, "x", ("thing", 2))), ("list", ())))

    def test_a_list_that_is_changed(self):
        rows = ["let a = [1, 2]", "let b = a", "add a, 3", "put b[0] = b", "cut b", "ask x 'q'"]
        self.assertEqual(things(*rows)[1:], (("list", (("thing", 1), 2)),))

    def test_tables(self):
        rows = ["let a = {yes: 1, 1: 2, 'b': 3, none: []}", "put a['a'] = 4", "put a[no] = 5", "put a['b'] = 6", "put a[1] = 2",
                "ask a 'q'"]
        told = (("yes",), 1), (1, 2), ("b", 6), (None, ("thing", 2)), ("a", 4), (("no",), 5)
        self.assertEqual(things(*rows)[1:], (("table", told), ("list", ())))

    def test_shared_ones(self):
        apart = ["let a = [1]", "let b = [1]", "let c = [a, b]", "ask a 'q'"]
        self.assertEqual(things(*apart)[0][2], (("a", ("thing", 1)), ("b", ("thing", 2)), ("c", ("thing", 3))))
        self.assertEqual(things(*apart)[1:], (("list", (1,)), ("list", (1,)), ("list", (("thing", 1), ("thing", 2)))))
        one = ["let a = [1]", "let b = a", "let c = [a, b]", "ask a 'q'"]
        self.assertEqual(things(*one)[0][2], (("a", ("thing", 1)), ("b", ("thing", 1)), ("c", ("thing", 2))))
        self.assertEqual(things(*one)[1:], (("list", (1,)), ("list", (("thing", 1), ("thing", 1)))))

    def test_rings(self):
        self.assertEqual(things("let a = []", "add a, a", "ask a 'q'")[1:], (("list", (("thing", 1),)),))
        self.assertEqual(things("let a = {}", "put a['k'] = a", "ask a 'q'")[1:], (("table", (("k", ("thing", 1)),)),))
        rows = ["let a = []", "let b = [a]", "add a, b", "let b = 0", "ask b 'q'"]
        self.assertEqual(things(*rows)[1:], (("list", (("thing", 2),)), ("list", (("thing", 1),))))
        rows = ["class k", "let o = call k()", "put o.o = o", "ask o 'q'"]
        self.assertEqual(things(*rows)[1:], (("class", None, ()), ("object", 1, (("o", ("thing", 2)),))))

    def test_functions(self):
        rows = ["def a()", "  say 1", "if yes", "  def b(x, y)", "let c = a", "ask x 'q'"]
        self.assertEqual(things(*rows), (("scope", None, (("a", ("thing", 1)), ("b", ("thing", 2)), ("c", ("thing", 1)))),
                                         ("function", 0, (0, 0), 0, None), ("function", 0, (1, 0, 0, 0), 0, None)))

    def test_a_def_that_is_executed_twice_makes_two(self):
        rows = ["let a = []", "while (len(a) < 2)", "  def f()", "  add a, f", "let f = (a[0] == a[1])", "ask a 'q'"]
        self.assertEqual(things(*rows), (("scope", None, (("a", ("thing", 1)), ("f", ("no",)))),
                                         ("list", (("thing", 2), ("thing", 3))), ("function", 0, (1, 0, 0, 0), 0, None),
                                         ("function", 0, (1, 0, 0, 0), 0, None)))

    def test_bound_functions(self):
        rows = ["class k", "  def m(self)", "let o = call k()", "let b = o.m", "let a = o.m", "let k = 0", "let o = k", "ask a 'q'"]
        self.assertEqual(things(*rows), (
            ("scope", None, (("a", ("thing", 1)), ("b", ("thing", 2)), ("k", 0), ("o", 0))), ("bound", 3, 4), ("bound", 3, 4),
            ("object", 5, ()), ("function", 0, (0, 0), 0, 5), ("class", None, (("m", 4),))))

    def test_a_bound_function_of_a_class_above(self):
        rows = ["class k", "  def m(self)", "class j over k", "  def m(self)", "    let up = above m", "    ask up 'q'",
                "let j = call j()", "let k = 0", "call j.m()"]
        frames, told = shape(*rows)
        self.assertEqual(frames[1], (0, (1, 0, 1), 1, (), None, 2))
        self.assertEqual(told[1:], (("scope", 0, (("self", ("thing", 3)), ("up", ("thing", 4)))), ("class", 5, (("m", 6),)),
                                    ("object", 2, ()), ("bound", 3, 7), ("class", None, (("m", 7),)),
                                    ("function", 0, (1, 0), 0, 2), ("function", 0, (0, 0), 0, 5)))

    def test_classes(self):
        rows = ["class a", "  def z(x)", "  def y(x)", "class b over a", "  def c(x)", "let a = 1", "ask a 'q'"]
        self.assertEqual(things(*rows), (
            ("scope", None, (("a", 1), ("b", ("thing", 1)))), ("class", 2, (("c", 3),)), ("class", None, (("y", 4), ("z", 5))),
            ("function", 0, (1, 0), 0, 1), ("function", 0, (0, 1), 0, 2), ("function", 0, (0, 0), 0, 2)))

    def test_objects(self):
        rows = ["class k", "let o = call k()", "put o.b = 1", "put o.a = yes", "put o.ab = [o]", "put o.b = 2", "ask o 'q'"]
        self.assertEqual(things(*rows)[2:], (("object", 1, (("a", ("yes",)), ("ab", ("thing", 3)), ("b", 2))),
                                             ("list", (("thing", 2),))))

    def test_names_and_fields_in_any_order(self):
        one = shape("let b = 1", "let a = 2", "let ab = 3", "class k", "let o = call k()", "put o.y = 1", "put o.x = 2", "ask a 'q'")
        two = shape("let ab = 3", "let a = 1", "let b = 1", "class k", "let o = call k()", "put o.x = 2", "put o.y = 1", "ask a 'q'")
        self.assertEqual([pair[0] for pair in one[1][0][2]], ["a", "ab", "b", "k", "o"])
        self.assertEqual(one[1][2], ("object", 1, (("x", 2), ("y", 1))))
        self.assertEqual(two[1][1:], one[1][1:])
        self.assertEqual(shape("let a = 1", "let b = 2", "let a = 2", "ask a 'q'")[1], shape("let b = 2", "let a = 1", "let a = 2", "ask a 'q'")[1])

    def test_the_order_of_rows_counts(self):
        self.assertNotEqual(shape("let a = {1: 1, 2: 2}", "ask a 'q'"), shape("let a = {2: 2, 1: 1}", "ask a 'q'"))
        self.assertNotEqual(shape("let a = {1: 1, yes: 2}", "ask a 'q'"), shape("let a = {yes: 2, 1: 1}", "ask a 'q'"))

    def test_no_truth_equals_a_number_nor_a_text(self):
        found = [shape(f"let a = {e}", "ask a 'q'") for e in ("yes", "no", "1", "0", "'1'", "'yes'", "none", "'none'", "''")]
        for index, one in enumerate(found):
            self.assertEqual(found.index(one), index)
        self.assertNotEqual(shape("let a = [yes]", "ask a 'q'"), shape("let a = [1]", "ask a 'q'"))
        self.assertNotEqual(shape("let a = {no: 1}", "ask a 'q'"), shape("let a = {0: 1}", "ask a 'q'"))

    def test_what_is_dropped(self):
        want = (("scope", None, (("a", ("thing", 1)),)), ("list", ()))
        for rows in (["let a = [[1], {1: [2]}]", "let a = []", "ask a 'q'"],
                     ["let a = [[], 1]", "cut a", "cut a", "ask a 'q'"],
                     ["let a = [[]]", "let a = a[0]", "ask a 'q'"],
                     ["let a = {1: []}", "let a = a[1]", "ask a 'q'"],
                     ["def a(x)", "  say x", "call a([1])", "let a = []", "ask a 'q'"],
                     ["class a", "  def make(self)", "    put self.x = []", "let a = call a()", "let a = a.x", "ask a 'q'"],
                     ["let a = []", "add a, a", "let a = []", "ask a 'q'"]):
            self.assertEqual(things(*rows), want, rows)

    def test_numbered_as_they_are_met(self):
        # Frames ahead of things, each from its left to its right; then the things, one after the other.
        rows = ["let a = [[1], [2]]", "class k", "  def make(me)", "    let z = [3]", "    try", "      raise [[4]]", "    last",
                "      ask z 'q'", "let b = [[5]]", "call k()"]
        frames, told = shape(*rows)
        self.assertEqual(frames, ((0, (3,), 0, (), None, None),
                                  (0, (1, 0, 1, 2, 0), 1, (("raise", ("thing", 2)),), 3, 4)))
        self.assertEqual([thing[0] for thing in told], ["scope", "scope", "list", "object", "class"] + ["list"] * 4 + ["function"] + ["list"] * 3)
        self.assertEqual(told[0][2], (("a", ("thing", 5)), ("b", ("thing", 6)), ("k", ("thing", 4))))
        self.assertEqual(told[1], ("scope", 0, (("me", ("thing", 3)), ("z", ("thing", 7)))))
        self.assertEqual(told[2:6], (("list", (("thing", 8),)), ("object", 4, ()), ("class", None, (("make", 9),)),
                                     ("list", (("thing", 10), ("thing", 11)))))
        self.assertEqual(told[6:], (("list", (("thing", 12),)), ("list", (3,)), ("list", (4,)), ("function", 0, (1, 0), 0, 4),
                                    ("list", (1,)), ("list", (2,)), ("list", (5,))))


class Frames(unittest.TestCase):
    def test_paths(self):
        rows = ["if yes", "  while yes", "    try", "      raise 1", "    catch e", "      def f()", "        if no", "        else",
                "          ask e 'q'", "      call f()"]
        self.assertEqual([frame[1] for frame in shape(*rows)[0]], [(0, 0, 0, 0, 0, 1, 1), (0, 0, 0, 0, 0, 1, 0, 0, 0, 1, 0)])

    def test_calls_in_calls(self):
        rows = ["def f(n)", "  if (n == 0)", "    ask n 'q'", "  else", "    call f((n - 1))", "call f(2)"]
        frames, told = shape(*rows)
        self.assertEqual([frame[1] for frame in frames], [(1,), (0, 0, 0, 1, 0), (0, 0, 0, 1, 0), (0, 0, 0, 0, 0)])
        self.assertEqual([frame[2] for frame in frames], [0, 1, 2, 3])
        self.assertEqual(told[1:4], (("scope", 0, (("n", 2),)), ("scope", 0, (("n", 1),)), ("scope", 0, (("n", 0),))))

    def test_twenty_frames(self):
        rows = ["def f(n)", "  if (n < 19)", "    call f((n + 1))", "  ask n 'q'", "call f(1)"]
        frames, told = shape(*rows)
        self.assertEqual([frame[2] for frame in frames], list(range(20)))
        self.assertEqual(told[19], ("scope", 0, (("n", 19),)))
        self.assertEqual(at(lines(*rows), [True] * 18).shape()[0], frames[:1] + ((0, (0, 0, 1), 1, (), None, None),))

    def test_a_frame_stays_for_give(self):
        rows = ["def f()", "  ask x 'q'", "def g()", "  give call f()", "call g()"]
        self.assertEqual([frame[1] for frame in shape(*rows)[0]], [(2,), (1, 0, 0), (0, 0, 0)])

    def test_the_home(self):
        rows = ["class k", "  def m(self)", "    def f()", "      ask self 'q'", "    call f()", "class j over k", "let o = call j()", "call o.m()"]
        frames, told = shape(*rows)
        # The method is that of the class above, whose home it has; a def in it has none.
        self.assertEqual([frame[5] for frame in frames], [None, 2, None])
        self.assertEqual(told[2], ("class", None, (("m", 7),)))
        self.assertEqual([thing for thing in told if thing[0] == "class"], [told[2], ("class", 2, ())])
        self.assertEqual([thing[4] for thing in told if thing[0] == "function"], [None, 2])

    def test_a_function_of_a_class_has_its_home_also_unbound(self):
        rows = ["class k", "  def m(x)", "    ask x 'q'", "let m = k.m", "let k = 1", "call m(1)"]
        frames, told = shape(*rows)
        self.assertEqual(frames[1], (0, (0, 0, 0), 1, (), None, 2))
        self.assertEqual(told[2], ("class", None, (("m", 3),)))

    def test_makes(self):
        rows = ["class k", "  def make(self, x)", "    ask x 'q'", "let o = call k(1)"]
        self.assertEqual(shape(*rows)[0][1], (0, (0, 0, 0), 1, (), 2, 3))
        self.assertEqual(shape(*rows)[1][1:3], (("scope", 0, (("self", ("thing", 2)), ("x", 1))), ("object", 3, ())))
        # A method that is called as such makes nothing.
        rows = ["class k", "  def make(self, x)", "    if x", "      ask x 'q'", "let o = call k(no)", "call o.make(yes)"]
        self.assertEqual(shape(*rows)[0][1][4:], (None, 2))
        rows = ["class k", "  def make(self)", "    ask self 'q'", "call k.make(5)"]
        self.assertEqual(shape(*rows)[0][1], (0, (0, 0, 0), 1, (), None, 2))

    def test_a_class_that_takes_make_from_above(self):
        rows = ["class k", "  def make(self)", "    call self.more()", "  def more(self)", "    ask x 'q'", "class j over k", "call j()"]
        frames, told = shape(*rows)
        self.assertEqual([frame[4:] for frame in frames], [(None, None), (2, 3), (None, 3)])
        self.assertEqual(told[2][:2] + told[3][:2], ("object", 5, "class", None))
        self.assertEqual(told[5], ("class", 3, ()))

    def test_what_a_frame_makes_is_come_to_by_it_alone(self):
        rows = ["class k", "  def make(self)", "    put self.x = [1]", "    set self = 0", "    ask self 'q'", "let o = call k()"]
        frames, told = shape(*rows)
        self.assertEqual(frames[1][4], 2)
        self.assertEqual(told[2], ("object", 3, (("x", ("thing", 4)),)))

    def test_kept_of_frames_below(self):
        rows = ["def f()", "  try", "    give 7", "  last", "    call g()", "def g()", "  try", "  last", "    ask x 'q'", "try", "  raise no",
                "last", "  call f()"]
        self.assertEqual([frame[3] for frame in shape(*rows)[0]], [(("raise", ("no",)),), (("give", 7),), (("on",),)])

    def test_kept_by_each_part_of_a_try(self):
        rows = ["try", "  raise 1", "catch e", "  {}", "last", "  ask e 'q'"]
        for row, want in (("say 1", ("on",)), ("raise 2", ("raise", 2)), ("say x", ("raise", "unset"))):
            self.assertEqual(shape(*[one.format(row) for one in rows])[0][0][3], (want,))
        self.assertEqual(shape("try", "  ask e 'q'", "catch e", "last", "  say 1")[0][0][3], ())
        self.assertEqual(shape("try", "  raise 1", "catch e", "  ask e 'q'", "last", "  say 1")[0][0][3], ())

    def test_what_is_forgotten(self):
        # A raise out of the last block takes the place of the kept give, and is caught further out.
        rows = ["def f()", "  try", "    try", "      give [1]", "    last", "      raise 2", "  catch e", "    ask e 'q'", "call f()"]
        frames, told = shape(*rows)
        self.assertEqual(frames[1][3], ())
        self.assertEqual([thing[0] for thing in told], ["scope", "scope", "function"])
        rows = ["while yes", "  try", "    raise [1]", "  last", "    leave", "ask x 'q'"]
        self.assertEqual(shape(*rows)[0], ((0, (1,), 0, (), None, None),))

    def test_a_loop_within_a_last_block(self):
        rows = ["try", "last", "  while yes", "    try", "      leave", "    last", "      ask x 'q'"]
        self.assertEqual(shape(*rows)[0][0][3], (("on",), ("leave",)))

    def test_things_that_only_what_is_kept_holds(self):
        for word in ("give", "raise"):
            rows = ["def f()", "  try", f"    {word} [[1]]", "  last", "    ask x 'q'", "call f()"]
            frames, told = shape(*rows)
            self.assertEqual(frames[1][3], ((word, ("thing", 2)),))
            self.assertEqual(told[2:], (("list", (("thing", 4),)), ("function", 0, (0, 0), 0, None), ("list", (1,))))

    def test_ended_failed_and_everlasting_runs(self):
        for rows in (["let a = 1", "say a"], ["let a = [1]", "raise a"], ["let a = 1", "while yes", "  let a = [a]", "  let a = 1"]):
            self.assertEqual(shape(*rows), NOWHERE)
        rows = lines("let a = 1", "ask a 'q'", "if a", "  raise a", "while yes")
        self.assertEqual(at(rows, [True]).shape(), NOWHERE)
        self.assertEqual(at(rows, [False]).shape(), NOWHERE)

    def test_renamed_things(self):
        # The same, with things made in another order and with others that nothing holds any more.
        rows = ["let a = 0", "let b = 0", "let c = 0"]
        one = rows + ["set a = [1]", "set b = [2, a]", "set c = {1: a}", "ask a 'q'"]
        two = rows + ["set c = {1: [3]}", "set b = [2, c]", "set a = [1]", "put b[1] = a", "put c[1] = a", "ask a 'q'"]
        self.assertNotEqual(shape(*one)[0], shape(*two)[0])
        self.assertEqual(shape(*one)[1], shape(*two)[1])
        two.remove("put c[1] = a")
        self.assertNotEqual(shape(*one)[1], shape(*two)[1])


class Machines(unittest.TestCase):
    """A machine that is made for a shape goes on like the one that had it."""

    def test_random_runs(self):
        for seed in range(60):
            for program in (made(seed), made_flow(seed)):
                self.compare(program, answers(seed))

    def compare(self, program, row):
        machine = started(program)
        for count in range(120):
            if machine.over is not None:
                return
            found = shape_of(machine.frames)
            other = machine_at([program], found)
            self.assertEqual(shape_of(other.frames), found)
            self.assertTrue(has_shape(machine.frames, found))
            self.assertEqual(other.event(), machine.event())
            self.assertEqual([frame.first for frame in other.frames], [frame.first for frame in machine.frames])
            self.go_on(machine, row, count)
            self.go_on(other, row, count)
            self.assertEqual(other.take_told(), machine.take_told())
            self.assertEqual(other.over, machine.over)
            self.assertEqual(shape_of(other.frames), shape_of(machine.frames))
            self.assertEqual(has_shape(machine.frames, found), shape_of(machine.frames) == found)

    def go_on(self, machine, row, count):
        if machine.event() is None:
            machine.step()
        else:
            machine.answer(count % 2 == len(row) % 2)

    def test_each_kind_of_thing(self):
        rows = ["class k", "  def m(self, x)", "    let y = [x, {1: x}, self.m, [k.m, f]]", "    try", "      raise y", "    last",
                "      ask x 'q'", "class j over k", "  def make(self, o)", "    put o.j = self", "    call o.m({})", "def f(a)",
                "  let o = call k()", "  call j(o)", "call f(1)"]
        program = read(lines(*rows))
        machine = started(program)
        self.assertEqual(lead(machine), ([], ("ask", "q")))
        found = shape_of(machine.frames)
        words = sorted({row[0] for row in found[1]})
        self.assertEqual(words, ["bound", "class", "function", "list", "object", "scope", "table"])
        other = machine_at([program], found)
        self.assertEqual(shape_of(other.frames), found)
        self.assertEqual([frame.first for frame in other.frames], [None, "a", "self", "self"])

    def test_led_ones(self):
        for seed in range(60):
            program = made_flow(seed)
            machine = started(program)
            try:
                lead(machine)
                if machine.over is not None:
                    continue
                other = machine_at([program], shape_of(machine.frames))
                machine.answer(True)
                other.answer(True)
                self.assertEqual(lead(other), lead(machine))
            except TooMany:
                continue


if __name__ == "__main__":
    unittest.main()
