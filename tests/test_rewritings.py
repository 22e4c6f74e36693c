"""Rewritings that change nothing: turned, unrolled, parted and wrapped of point [36]."""

import unittest

from helping import ALL_KINDS, NO, NOTHING, YES, at, lines, lists_in, name, nested, num, say, text

from everyanswer.errors import NoPath, NoPlace
from everyanswer.likeness import alike_programs
from everyanswer.moments import start
from everyanswer.programs import Program
from everyanswer.rewritings import parted, turned, unrolled, wrapped
from everyanswer.runs import events
from everyanswer.texts import program_text, read

REWRITINGS = {"if": turned, "while": unrolled, "try": parted}


def around(statement):
    """Blocks with this statement in them, each with its path."""
    plain = ("try", [say(1)], "e", [say(2)], [say(3)])
    return [
        ([statement], (0,)),
        ([say(1), statement, say(2)], (1,)),
        ([("if", YES, [say(1), statement], [say(2)])], (0, 0, 1)),
        ([("if", YES, [say(1)], [statement, say(2)])], (0, 1, 0)),
        ([say(1), ("while", YES, [say(2), statement])], (1, 0, 1)),
        ([("try", [statement]) + plain[2:]], (0, 0, 0)),
        ([plain[:3] + ([say(4), statement], [])], (0, 1, 1)),
        ([plain[:4] + ([statement, say(4)],)], (0, 2, 0)),
        ([("def", "f", ["x"], [say(1), say(2), statement])], (0, 0, 2)),
        ([("class", "k", None, [("m", ["s"], [say(1)]), ("n", ["s"], [statement, say(5)])])], (0, 1, 0)),
        ([nested(5, statement, lambda inner: ("if", YES, [inner], [say(7)]))], (0,) * 11),
        ([say(0), ("def", "f", [], [("class", "k", None, [("m", ["s"], [say(), ("while", NO, [statement])])])])],
         (1, 0, 0, 0, 1, 0, 0)),
    ]


def filling(many):
    """A statement that has so many statements with those within it."""
    rows = []
    many -= 1
    while many > 0:
        rows.append(("if", YES, [say()] * (min(many, 12) - 1), []))
        many -= min(many, 12)
    return ("if", YES, rows, [])


class Programs(unittest.TestCase):
    """What is due, at any place."""

    def check(self, rewriting, statement, want):
        for (block, path), (goal, _) in zip(around(statement), around(want)):
            program = Program(block)
            result = rewriting(program, path)
            self.assertIsInstance(result, Program)
            self.assertEqual(result.block(), goal)
            self.assertTrue(result == Program(goal))
            self.assertEqual(program.block(), block)

    def test_turned(self):
        self.check(turned, ("if", name("a"), [say(8)], [say(9)]), ("if", ("not", name("a")), [say(9)], [say(8)]))
        self.check(turned, ("if", NO, [], []), ("if", ("not", NO), [], []))
        self.check(turned, ("if", ("not", YES), [say(8)], []), ("if", ("not", ("not", YES)), [], [say(8)]))
        self.check(turned, ("if", text("a"), [], [say(8)]), ("if", ("not", text("a")), [say(8)], []))

    def test_unrolled(self):
        loop = ("while", name("a"), [say(8), ("cut", name("l"))])
        self.check(unrolled, loop, ("if", name("a"), [say(8), ("cut", name("l")), loop], []))
        self.check(unrolled, ("while", NO, []), ("if", NO, [("while", NO, [])], []))

    def test_parted(self):
        one = ("try", [say(7)], "c", [say(8)], [say(9)])
        self.check(parted, one, ("try", [("try", [say(7)], "c", [say(8)], [])], None, [], [say(9)]))
        one = ("try", [], "c", [], [say(9), say(8)])
        self.check(parted, one, ("try", [("try", [], "c", [], [])], None, [], [say(9), say(8)]))

    def test_wrapped(self):
        for statement in ALL_KINDS:
            self.check(wrapped, statement, ("if", YES, [statement], []))
        self.check(wrapped, ("if", NO, [say(1)], [say(2)]), ("if", YES, [("if", NO, [say(1)], [say(2)])], []))

    def test_wrapped_where_only_some_stand(self):
        program = read("while yes\n  leave\ndef f()\n  give 1\n  give call f()\nclass k\n  def m(s)\n    say above m")
        for path in program.paths():
            self.assertEqual(wrapped(program, path)[path], ("if", YES, [program[path]], []))
            self.assertEqual(wrapped(program, path)[path + (0, 0)], program[path])
            self.assertEqual(len(wrapped(program, path)), len(program) + 1)

    def test_texts(self):
        program = read("if a\n  say 1\nelse\n  say 2\nwhile b\n  say 3\ntry\n  say 4\ncatch e\n  say 5\nlast\n  say 6")
        self.assertEqual(program_text(turned(program, (0,))).split("\n")[:4], ["if (not a)", "  say 2", "else", "  say 1"])
        self.assertEqual(program_text(unrolled(program, (1,))).split("\n")[4:8],
                         ["if b", "  say 3", "  while b", "    say 3"])
        self.assertEqual(program_text(parted(program, (2,))).split("\n")[6:],
                         ["try", "  try", "    say 4", "  catch e", "    say 5", "last", "  say 6"])
        self.assertEqual(program_text(wrapped(program, (1,))).split("\n")[4:7], ["if yes", "  while b", "    say 3"])


class Again(unittest.TestCase):
    def test_turned(self):
        program = Program([("if", name("a"), [say(1)], [say(2)])])
        twice = turned(turned(program, (0,)), (0,))
        self.assertEqual(twice.block(), [("if", ("not", ("not", name("a"))), [say(1)], [say(2)])])

    def test_unrolled(self):
        loop = ("while", name("a"), [say(1)])
        once = unrolled(Program([loop]), (0,))
        inner = ("if", name("a"), [say(1), loop], [])
        self.assertEqual(unrolled(once, (0, 0, 1)).block(), [("if", name("a"), [say(1), inner], [])])
        self.assertRaises(NoPlace, unrolled, once, (0,))

    def test_parted(self):
        once = parted(Program([("try", [], "c", [], [say(1)])]), (0,))
        self.assertRaises(NoPlace, parted, once, (0,))
        self.assertRaises(NoPlace, parted, once, (0, 0, 0))

    def test_wrapped(self):
        program = Program([say(1)])
        for _ in range(7):
            program = wrapped(program, (0,))
        self.assertEqual(program.paths()[-1], (0,) * 15)
        self.assertRaises(NoPlace, wrapped, program, (0,))
        self.assertRaises(NoPlace, wrapped, program, (0,) * 15)
        self.assertEqual(events(program, []), [("say", "1"), ("ended",)])

    def test_the_given_one_stays(self):
        program = read("if a\n  say 1\nwhile b\n  say 3\ntry\n  say 4\ncatch e\nlast\n  say 6")
        before = program.block()
        for rewriting, path in ((turned, (0,)), (unrolled, (1,)), (parted, (2,)), (wrapped, (1, 0, 0))):
            one, other = rewriting(program, path), rewriting(program, path)
            self.assertEqual(program.block(), before)
            self.assertTrue(one == other)
            self.assertFalse(one == program)
            for block in lists_in(one.block()):
                block.append(0)
            self.assertTrue(one == other)
            self.assertEqual(program.block(), before)


class Wrong(unittest.TestCase):
    def test_no_path(self):
        program = Program(ALL_KINDS + [("if", YES, [say(1)], [])])
        for rewriting in (turned, unrolled, parted, wrapped):
            for path in NOTHING + [(), (12,), (-1,), (0, 0), (0, 0, 0), (11, 0), (11, 0, 1), (11, 1, 0), (11, 2, 0), [0],
                                   (True,), (False,), ("0",), (None,), ([],), (11, 0, 0, 0)]:
                self.assertRaises(NoPath, rewriting, program, path)
            self.assertRaises(NoPath, rewriting, Program([]), (0,))
            # In a full program, a path that is none comes ahead of what cannot be.
            self.assertRaises(NoPath, rewriting, Program([say()] * 12), (12,))

    def test_each_other_kind(self):
        for statement in ALL_KINDS + [("if", YES, [], []), ("while", YES, []), ("try", [], "e", [], [say()])]:
            for word, rewriting in REWRITINGS.items():
                if statement[0] == word:
                    rewriting(Program([statement]), (0,))
                else:
                    self.assertRaises(NoPlace, rewriting, Program([statement]), (0,))

    def test_kinds_that_stand_only_in_some_places(self):
        program = read("def f()\n  give 1\n  give call f()\nwhile yes\n  leave")
        for rewriting in REWRITINGS.values():
            for path in ((0, 0, 0), (0, 0, 1), (1, 0, 0)):
                self.assertRaises(NoPlace, rewriting, program, path)

    def test_tries_with_less(self):
        for statement in (("try", [say(1)], None, [], [say(2)]), ("try", [say(1)], "e", [say(2)], []),
                          ("try", [], "e", [], [])):
            self.assertRaises(NoPlace, parted, Program([statement]), (0,))

    def test_a_leave_of_its_own(self):
        leaving = [[("leave",)], [say(), ("leave",)], [("if", YES, [("leave",)], [])], [("if", YES, [], [say(), ("leave",)])],
                   [("try", [("leave",)], "e", [], [])], [("try", [], "e", [("leave",)], [])],
                   [("try", [], None, [], [("leave",)])],
                   [("if", YES, [("try", [("if", NO, [], [("leave",)])], "e", [], [])], [])],
                   [("while", YES, [("leave",)]), ("leave",)]]
        for block in leaving:
            self.assertRaises(NoPlace, unrolled, Program([("while", YES, block)]), (0,))
            self.assertRaises(NoPlace, unrolled, Program([("while", YES, [("while", NO, block)])]), (0, 0, 0))

    def test_a_leave_of_another_while(self):
        inner = ("while", YES, [("if", YES, [("leave",)], []), ("leave",)])
        blocks = [[inner], [say(), ("if", YES, [], [inner])], [("try", [inner], "e", [inner], [inner])],
                  [("def", "f", [], [inner])], [("class", "k", None, [("m", ["s"], [inner])])]]
        for block in blocks:
            loop = ("while", name("a"), block)
            self.assertEqual(unrolled(Program([loop]), (0,)).block(), [("if", name("a"), block + [loop], [])])
            # Within a while that is left behind it.
            program = Program([("while", YES, [loop, ("leave",)])])
            self.assertEqual(unrolled(program, (0, 0, 0))[(0, 0, 0)], ("if", name("a"), block + [loop], []))


class Rules(unittest.TestCase):
    """What the result would break of [8] to [10]."""

    def test_expressions(self):
        for depth, kept in ((3, True), (4, True), (5, False)):
            e = nested(depth - 1, YES, lambda inner: ("not", inner))
            program = Program([("if", e, [say(1)], [])])
            if kept:
                self.assertEqual(turned(program, (0,)).block(), [("if", ("not", e), [], [say(1)])])
            else:
                self.assertRaises(NoPlace, turned, program, (0,))
        wide = ("op", "and", YES, ("op", "and", YES, ("op", "==", ("len", text("a")), num(2))))
        self.assertRaises(NoPlace, turned, Program([("if", wide, [], [])]), (0,))

    def test_blocks_that_are_too_deep(self):
        empty = {"if": ("if", YES, [], []), "while": ("while", NO, []), "try": ("try", [], "e", [], [say()])}
        for word, statement in empty.items():
            for many in range(7):
                # The blocks of the statement are at depth many + 2.
                program = Program([nested(many, statement, lambda inner: ("if", YES, [inner], []))])
                path = (0,) * (2 * many + 1)
                if many == 6 and word != "if":
                    self.assertRaises(NoPlace, REWRITINGS[word], program, path)
                else:
                    REWRITINGS[word](program, path)
                if many == 6:
                    self.assertRaises(NoPlace, wrapped, program, path)
                    self.assertRaises(NoPlace, wrapped, program, (0,))
                else:
                    wrapped(program, path)

    def test_deep_but_elsewhere(self):
        """Only what is within the statement becomes deeper."""
        deep = nested(6, ("if", NO, [], []), lambda inner: ("if", YES, [], [inner]))
        program = Program([deep, ("while", NO, [say(1)]), ("try", [], "e", [], [say(2)]), say(3)])
        self.assertRaises(NoPlace, wrapped, program, (0,))
        for rewriting, path in ((unrolled, (1,)), (parted, (2,)), (wrapped, (1,)), (wrapped, (3,)), (turned, (0,))):
            rewriting(program, path)

    def test_too_many_statements(self):
        loop = ("while", NO, [say(1), ("if", YES, [say(2)], [])])
        one = ("try", [], "e", [], [say()])
        for statement, rewriting, more in ((loop, unrolled, 4), (one, parted, 1), (say(), wrapped, 1), (loop, wrapped, 1)):
            many = len(Program([statement]))
            fits = Program([filling(80 - many - more), statement])
            self.assertEqual(len(fits), 80 - more)
            self.assertEqual(len(rewriting(fits, (1,))), 80)
            self.assertRaises(NoPlace, rewriting, Program([filling(81 - many - more), statement]), (1,))
            self.assertRaises(NoPlace, rewriting, Program([statement, filling(80 - many)]), (0,))
        whole = Program([filling(79), ("if", YES, [], [])])
        self.assertEqual((len(whole), len(turned(whole, (1,)))), (80, 80))

    def test_the_thirteenth_of_a_block(self):
        for many, kept in ((10, True), (11, True), (12, False)):
            loop = ("while", NO, [say()] * many)
            if kept:
                self.assertEqual(unrolled(Program([loop]), (0,)).block(), [("if", NO, [say()] * many + [loop], [])])
            else:
                self.assertRaises(NoPlace, unrolled, Program([loop]), (0,))
        # A block stays as long as it is.
        for index in range(12):
            wrapped(Program([say()] * 12), (index,))


class Alike(unittest.TestCase):
    def check(self, rewriting, path, *rows):
        program = read(lines(*rows))
        result = rewriting(program, path)
        self.assertEqual(alike_programs(program, result)[0], "alike")
        self.assertEqual(alike_programs(result, program)[0], "alike")
        for row in ([], [True], [False], [True, False], [False, True, True]):
            self.assertEqual(events(result, row), events(program, row))

    def test_turned(self):
        for e in ("a", "(a == r)", "1", "none", "nobody", "yes"):
            self.check(turned, (3,), "let a = no", "let r = no", "ask a 'q'", f"if {e}", "  ask r 'r'", "  say r", "else",
                       "  say 'else'", "say a")

    def test_unrolled(self):
        for e in ("a", "(not a)", "1", "nobody", "yes", "no"):
            self.check(unrolled, (1,), "let a = no", f"while {e}", "  ask a 'q'", "  say a", "say 'behind'")
            self.check(unrolled, (1,), "let a = yes", f"while {e}", "  say 'on'", "say 'behind'")

    def test_parted(self):
        for row in ("say 1", "raise 'x'", "ask a 'r'", "leave", "say nobody"):
            for inner in ("say e", "raise e", "leave"):
                for final in ("say 'last'", "leave", "raise 'other'", "ask a 'l'"):
                    self.check(parted, (1, 0, 1), "let a = yes", "while a", "  ask a 'q'", "  try", "    say 'in'",
                               f"    {row}", "  catch e", f"    {inner}", "  last", f"    {final}", "say 'behind'")

    def test_wrapped(self):
        rows = ["let a = no", "def f(x)", "  ask x 'f'", "  give x", "let a = call f(1)", "while a", "  try",
                "    set a = call f(2)", "    leave", "  catch e", "    say e", "  last", "    say 'l'", "say a"]
        for path in read(lines(*rows)).paths():
            self.check(wrapped, path, *rows)

    def test_moments_of_a_result(self):
        """The result is a program like any other."""
        program = read("let a = no\nwhile (not a)\n  ask a 'q'")
        result = unrolled(program, (1,))
        _, moment = start(result)
        self.assertEqual(moment.shape()[0][0][1], (1, 0, 0))
        _, moment = moment.answered(False)
        self.assertEqual(moment.shape()[0][0][1], (1, 0, 1, 0, 0))
        self.assertEqual(moment.programs(), [result])
        self.assertEqual(at(program_text(result)).shape(), start(result)[1].shape())


if __name__ == "__main__":
    unittest.main()
