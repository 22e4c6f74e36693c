"""What can be cut out of programs: cut_out and needless of point [37]."""

import unittest

from helping import ALL_KINDS, NOTHING, YES, counted, lines, lists_in, many_of, name, nested, say

from everyanswer.errors import NoPath, NoPlace
from everyanswer.likeness import alike_programs
from everyanswer.programs import Program
from everyanswer.rewritings import cut_out, needless
from everyanswer.texts import program_text, read


def cut(path, *rows):
    return program_text(cut_out(read(lines(*rows)), path))


def needless_in(*rows):
    return needless(read(lines(*rows)))


class CutOut(unittest.TestCase):
    def test_the_later_ones_move_up(self):
        for many in (1, 2, 3, 12):
            for index in range(many):
                result = cut_out(Program([say(at) for at in range(many)]), (index,))
                self.assertIsInstance(result, Program)
                self.assertEqual(result.block(), [say(at) for at in range(many) if at != index])

    def test_each_kind(self):
        for statement in ALL_KINDS:
            self.assertEqual(cut_out(Program([say(1), statement, say(2)]), (1,)).block(), [say(1), say(2)])

    def test_with_all_that_is_within(self):
        rows = ["say 1", "if a", "  say 2", "else", "  say 3", "while b", "  say 4", "def f()", "  say 5", "class k", "  def m(s)",
                "    say 6", "try", "  say 7", "catch e", "  say 8", "last", "  say 9"]
        self.assertEqual(cut((1,), *rows), lines(*rows[:1], *rows[5:]))
        self.assertEqual(cut((2,), *rows), lines(*rows[:5], *rows[7:]))
        self.assertEqual(cut((3,), *rows), lines(*rows[:7], *rows[9:]))
        self.assertEqual(cut((4,), *rows), lines(*rows[:9], *rows[12:]))
        self.assertEqual(cut((5,), *rows), lines(*rows[:12]))

    def test_within_blocks(self):
        rows = ["if a", "  say 2", "  say 3", "else", "  say 4", "try", "  say 7", "catch e", "  say 8", "last", "  say 9"]
        self.assertEqual(cut((0, 0, 0), *rows), lines(rows[0], *rows[2:]))
        self.assertEqual(cut((0, 1, 0), *rows), lines(*rows[:3], *rows[5:]))
        self.assertEqual(cut((1, 0, 0), *rows), lines(*rows[:6], *rows[7:]))
        self.assertEqual(cut((1, 1, 0), *rows), lines(*rows[:8], *rows[9:]))
        self.assertEqual(cut((1, 2, 0), *rows), lines(*rows[:9]))
        rows = ["def f()", "  give 1", "  give 2", "class k", "  def m(s)", "    say 1", "  def n(s)", "    say above n", "while yes",
                "  leave"]
        self.assertEqual(cut((0, 0, 0), *rows), lines(rows[0], *rows[2:]))
        self.assertEqual(cut((1, 0, 0), *rows), lines(*rows[:5], *rows[6:]))
        self.assertEqual(cut((1, 1, 0), *rows), lines(*rows[:7], *rows[8:]))
        self.assertEqual(cut((2, 0, 0), *rows), lines(*rows[:9]))

    def test_deep_within(self):
        wrap = lambda inner: ("if", YES, [say(1)], [say(2), inner, say(3)])
        program = Program([nested(7, say(9), wrap)])
        result = cut_out(program, (0,) + (1, 1) * 7)
        self.assertEqual(result.block(), [nested(6, ("if", YES, [say(1)], [say(2), say(3)]), wrap)])

    def test_a_try_without_a_name(self):
        one = Program([("try", [say(1)], None, [], [say(2)])])
        self.assertRaises(NoPlace, cut_out, one, (0, 2, 0))
        self.assertEqual(cut_out(one, (0, 0, 0)).block(), [("try", [], None, [], [say(2)])])
        self.assertEqual(cut_out(one, (0,)).block(), [])
        two = Program([("if", YES, [], [("try", [], None, [], [say(1), say(2)])])])
        self.assertEqual(cut_out(two, (0, 1, 0, 2, 0))[(0, 1, 0)], ("try", [], None, [], [say(2)]))
        self.assertEqual(cut_out(two, (0, 1, 0, 2, 1))[(0, 1, 0)], ("try", [], None, [], [say(1)]))
        self.assertRaises(NoPlace, cut_out, cut_out(two, (0, 1, 0, 2, 0)), (0, 1, 0, 2, 0))

    def test_no_path(self):
        program = Program([("try", [say(1)], None, [], [say(2)]), say()])
        for path in NOTHING + [(), (2,), (-1,), (0, 0), (0, 0, 1), (0, 1, 0), (0, 2, 1), (0, 3, 0), (1, 0, 0), [0], (True,), (None,)]:
            self.assertRaises(NoPath, cut_out, program, path)
        self.assertRaises(NoPath, cut_out, Program([]), (0,))

    def test_the_given_one_stays(self):
        program = read("if a\n  say 2\n  say 3\nsay 4")
        before = program.block()
        result = cut_out(program, (0, 0, 1))
        self.assertEqual(program.block(), before)
        for block in lists_in(result.block()):
            block.append(0)
        self.assertEqual(program.block(), before)
        self.assertTrue(cut_out(program, (0, 0, 1)) == result)
        self.assertTrue(cut_out(read("say 1"), (0,)) == read(""))


class Needless(unittest.TestCase):
    def test_none(self):
        self.assertEqual(needless_in(""), [])
        self.assertEqual(needless_in("say 1"), [])
        self.assertEqual(needless_in("let a = no", "ask a 'q'", "say a"), [])

    def test_what_is_never_come_to(self):
        self.assertEqual(needless_in("if no", "  say 1", "  if yes", "    say 2", "say 3"), [(0,), (0, 0, 0), (0, 0, 1), (0, 0, 1, 0, 0)])
        self.assertEqual(needless_in("raise 1", "say 1", "ask a 'q'"), [(1,), (2,)])
        self.assertEqual(needless_in("def f()", "  say 1", "say 2"), [(0,), (0, 0, 0)])

    def test_what_changes_nothing(self):
        self.assertEqual(needless_in("let a = 1", "say 2"), [(0,)])
        self.assertEqual(needless_in("let a = 1", "let a = 2", "say a"), [(0,)])
        self.assertEqual(needless_in("let a = 1", "say a", "set a = 2"), [(2,)])
        self.assertEqual(needless_in("if yes", "  if no", "  let b = 1", "say 1"), [(0,), (0, 0, 0), (0, 0, 1)])

    def test_each_of_two_but_not_both(self):
        """Each statement is cut out by itself."""
        self.assertEqual(needless_in("let a = 1", "let a = 1", "say a"), [(0,), (1,)])
        self.assertEqual(needless_in("let a = no", "let b = no", "ask a 'q'", "let b = a", "let b = a", "say b"), [(1,), (3,), (4,)])

    def test_what_answers_bring_about(self):
        # Without the set, the same is said for one answer only.
        rows = ["let a = no", "let b = no", "ask a 'q'", "if a", "  set b = a", "say b", "ask b 'r'"]
        self.assertEqual(needless_in(*rows), [])
        rows[4] = "  set b = no"
        self.assertEqual(needless_in(*rows), [(3,), (3, 0, 0)])
        # The last question is left out only where that tells nothing; its event is told.
        self.assertEqual(needless_in("let a = no", "ask a 'q'"), [])

    def test_other_shapes(self):
        """Alike is not equal: a counter that nothing looks at."""
        self.assertEqual(needless_in("let a = no", "let n = 0", "while yes", "  ask a 'q'", "  say a", "  set n = (1 - n)"),
                         [(2, 0, 2)])
        self.assertEqual(needless_in("let a = no", "let n = 0", "while yes", "  ask a 'q'", "  say a", "  let n = (1 - n)"),
                         [(2, 0, 2)])

    def test_runs_that_go_on_for_ever(self):
        self.assertEqual(needless_in("while yes", "  say 1", "  let a = 1"), [(0, 0, 1)])
        self.assertEqual(needless_in("say 1", "while yes", "  say 1"), [(0,)])
        self.assertEqual(needless_in("while yes", "  say 1", "  say 1"), [(0, 0, 0), (0, 0, 1)])
        self.assertEqual(needless_in("let a = yes", "while a", "  set a = no", "say 1"), [(1,)])

    def test_no_place(self):
        self.assertEqual(needless_in("try", "  let a = 1", "last", "  let b = 1"), [(0,), (0, 0, 0)])
        self.assertEqual(needless_in("try", "last", "  let b = 1", "  let b = 2"), [(0,), (0, 2, 0), (0, 2, 1)])
        self.assertEqual(needless_in("try", "  let a = 1", "catch e", "last", "  let b = 1"), [(0,), (0, 0, 0), (0, 2, 0)])

    def test_too_many_statements_in_a_result(self):
        # Without the second set, the run goes on and on; n is what keeps it from going on for ever.
        rows = ["let n = 0", "let m = 0", "while (m < 5)", "  set n = (n + 1)", "  set m = (m + 1)"]
        self.assertEqual(many_of(alike_programs, cut_out(read(lines(*rows)), (2, 0, 1)), read("")), 3000)
        self.assertEqual(needless_in(*rows), [(2,), (2, 0, 0)])

    def test_too_many_moments_in_a_result(self):
        rows = ["let n = 0", "let a = no", "while yes", "  ask a 'q'", "  set n = (n + 1)", "  set n = 0", "  let a = no"]
        program = read(lines(*rows))
        self.assertEqual(many_of(alike_programs, program, cut_out(program, (2, 0, 2))), 200)
        # Alike it would be, for all that is asked; and a is looked up by nothing.
        self.assertEqual(needless(program), [(2, 0, 1), (2, 0, 3)])

    def test_apart_ahead_of_too_many(self):
        rows = ["let n = 0", "let a = no", "while yes", "  ask a 'q'", "  say n", "  set n = (n + 1)", "  set n = 0", "  let a = no"]
        self.assertEqual(needless_in(*rows), [(2, 0, 2), (2, 0, 4)])

    def test_200_moments_are_not_too_many(self):
        rows = lines("let n = 0", "let a = no", "while yes", "  ask a 'q'", "  let a = no", "  set n = (n + 1)", "  if (n == {})",
                     "    set n = 0")
        # Without the first let in the while there are 400 moments, and without the last set there is no end of them.
        self.assertEqual(needless(read(rows.format(200))), [(2, 0, 2)])
        self.assertEqual(needless(read(rows.format(100))), [(2, 0, 1), (2, 0, 2)])
        self.assertEqual(many_of(needless, read(rows.format(201))), 200)

    def test_too_many_for_the_program_itself(self):
        self.assertEqual(many_of(needless, read(lines("let n = 0", "while yes", "  set n = (n + 1)"))), 3000)
        self.assertEqual(many_of(needless, read(lines("let a = no", "ask a 'q'", "let n = 0", "while a", "  set n = (n + 1)"))), 3000)
        self.assertEqual(many_of(needless, read(lines("let a = no", "let n = 0", "while yes", "  ask a 'q'", "  set n = (n + 1)"))), 200)
        self.assertEqual(many_of(needless, read(lines(*counted(2998), "say 1"))), 3000)
        self.assertEqual(many_of(needless, read(lines(*counted(2000)))), 3000)

    def test_what_is_handed_in_stays(self):
        program = read("let a = 1\nif no\n  say a\nsay 2")
        before = program.block()
        found = needless(program)
        self.assertEqual(found, [(0,), (1,), (1, 0, 0)])
        found.append(0)
        self.assertEqual(needless(program), found[:-1])
        self.assertEqual(program.block(), before)
        self.assertEqual([cut_out(program, path).block() == before for path in needless(program)], [False] * 3)

    def test_alike_with_each(self):
        program = read(lines("let a = no", "let b = a", "class k", "  def m(s)", "    ask a 'm'", "  def n(s)", "    say s",
                             "let o = call k()", "while (not a)", "  call o.m()", "  set b = a", "say b"))
        found = needless(program)
        for path in program.paths():
            self.assertEqual(alike_programs(program, cut_out(program, path))[0] == "alike", path in found)
        self.assertEqual(found, [(2, 1, 0)])

    def test_many_statements(self):
        row = ("if", YES, [("set", "a", name("a"))] * 11, [])
        program = Program([("let", "a", YES), ("ask", "a", "q")] + [row] * 6 + [say(1), ("say", name("a"))])
        self.assertEqual(needless(program), [path for path in program.paths() if path[0] in range(2, 8)])


if __name__ == "__main__":
    unittest.main()
