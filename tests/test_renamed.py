"""Names that become other ones: renamed of point [36]."""

import unittest

from helping import NO, NOTHING, YES, lines, lists_in, name, nested, num, say, text

from everyanswer.errors import NoName
from everyanswer.likeness import alike_programs
from everyanswer.programs import Program
from everyanswer.rewritings import renamed
from everyanswer.texts import program_text, read


def become(*rows, name="a", other="z"):
    return program_text(renamed(read(lines(*rows)), name, other))


class Places(unittest.TestCase):
    def test_each_place_where_a_name_stands(self):
        for row, want in (
            ("let a = 1", "let z = 1"), ("set a = 1", "set z = 1"), ("say a", "say z"), ("put b.a = 1", "put b.z = 1"),
            ("put a.b = 1", "put z.b = 1"), ("ask a 'q'", "ask z 'q'"), ("let a = call b()", "let z = call b()"),
            ("set a = call b()", "set z = call b()"), ("let b = call a()", "let b = call z()"),
            ("call b(a, 1, [a])", "call b(z, 1, [z])"), ("say call b(a)", "say call b(z)"),
            ("def a()", "def z()"), ("def b(a)", "def b(z)"), ("def b(c, a, d)", "def b(c, z, d)"),
            ("class a", "class z"), ("class b over a", "class b over z"), ("class a over a", "class z over z"),
            ("say b.a", "say b.z"), ("say a.b", "say z.b"), ("say a.a", "say z.z"), ("say a[b]", "say z[b]"),
            ("say b[a]", "say b[z]"), ("put b[a] = a", "put b[z] = z"), ("add a, a", "add z, z"), ("cut a", "cut z"),
            ("raise a", "raise z"),
        ):
            self.assertEqual(become(row), want)

    def test_within_blocks(self):
        self.assertEqual(
            become("class b", "  def a(c)", "    say above a", "  def d(a)", "    give a", "  def make(c, a)", "    give call a(a)",
                   "try", "  if a", "    say a", "  else", "    cut a", "catch a", "  while a", "    raise a", "last",
                   "  def f(a, b)", "    let a = a", "    ask a 'a'"),
            lines("class b", "  def z(c)", "    say above z", "  def d(z)", "    give z", "  def make(c, z)", "    give call z(z)",
                  "try", "  if z", "    say z", "  else", "    cut z", "catch z", "  while z", "    raise z", "last",
                  "  def f(z, b)", "    let z = z", "    ask z 'a'"))

    def test_within_expressions(self):
        self.assertEqual(become("say (a + (b * a))"), "say (z + (b * z))")
        self.assertEqual(become("say (not a)", "say len(a)", "say kind(a)"), "say (not z)\nsay len(z)\nsay kind(z)")
        self.assertEqual(become("say [1, a, [a, b]]"), "say [1, z, [z, b]]")
        self.assertEqual(become("say {a: b, b: a, 1: {a: a}}"), "say {z: b, b: z, 1: {z: z}}")
        deep = nested(4, name("a"), lambda inner: ("at", inner, num(1)))
        self.assertEqual(renamed(Program([("say", deep)]), "a", "z").block(),
                         [("say", nested(4, name("z"), lambda inner: ("at", inner, num(1))))])

    def test_deep_within(self):
        block = [nested(7, ("say", name("a")), lambda inner: ("if", name("a"), [say(), inner], [("cut", name("a"))]))]
        want = [nested(7, ("say", name("z")), lambda inner: ("if", name("z"), [say(), inner], [("cut", name("z"))]))]
        self.assertEqual(renamed(Program(block), "a", "z").block(), want)

    def test_what_reads_like_the_name_stays(self):
        self.assertEqual(become("say 'a'", "ask b 'a'", "say ab", "say {'a': a}"),
                         "say 'a'\nask b 'a'\nsay ab\nsay {'a': z}")
        self.assertEqual(become("call drop()", name="drop", other="let" + "s"), "call lets()")
        # The words of statements and of how a call hands its result on are no names.
        program = Program([("call", "drop", None, name("drop"), []), ("say", name("drop")), ("say", text("drop"))])
        self.assertEqual(renamed(program, "drop", "number").block(),
                         [("call", "drop", None, name("number"), []), ("say", name("number")), ("say", text("drop"))])
        program = Program([("say", ("list", [name("text"), text("text"), ("op", "+", name("op"), num(1))])),
                           ("place", name("place"), NO, YES)])
        for one, other in (("text", "op"), ("op", "text"), ("place", "op")):
            self.assertRaises(NoName, renamed, program, one, other)
        self.assertEqual(renamed(program, "place", "get").block()[1], ("place", name("get"), NO, YES))
        self.assertEqual(renamed(program, "text", "get").block()[0],
                         ("say", ("list", [name("get"), text("text"), ("op", "+", name("op"), num(1))])))

    def test_names_of_all_lengths(self):
        self.assertEqual(become("say b", name="b", other="abcdefgh"), "say abcdefgh")
        self.assertEqual(become("say abcdefgh", name="abcdefgh", other="b"), "say b")


class Wrong(unittest.TestCase):
    def test_no_names(self):
        program = read("say a")
        for thing in NOTHING + ["A", "abcdefghi", "a1", "a ", "a\n", "yes", "at", "make", ("name", "a"), b"a", ["a"], program]:
            self.assertRaises(NoName, renamed, program, thing, "z")
            self.assertRaises(NoName, renamed, program, "a", thing)
            self.assertRaises(NoName, renamed, program, "b", thing)
            self.assertRaises(NoName, renamed, program, thing, thing)
            self.assertRaises(NoName, renamed, read(""), thing, "z")
            self.assertRaises(NoName, renamed, read(""), "a", thing)

    def test_make(self):
        program = read("class a\n  def make(s)")
        self.assertRaises(NoName, renamed, program, "make", "z")
        self.assertRaises(NoName, renamed, program, "a", "make")
        self.assertRaises(NoName, renamed, read("say make"), "make", "z")
        self.assertRaises(NoName, renamed, read("say 1"), "make", "z")
        self.assertRaises(NoName, renamed, read("say 1"), "z", "make")
        self.assertEqual(program_text(renamed(program, "s", "t")), "class a\n  def make(t)")

    def test_the_other_one_occurs(self):
        for row in ("let z = 1", "set z = 1", "say z", "put b.z = 1", "put z.b = 1", "ask z 'q'", "let z = call b()",
                    "set z = call b()", "call z()", "call b(z)", "def z()", "def b(z)", "class z", "class b over z", "say b.z",
                    "say [[z]]", "say {1: z}", "say {z: 1}", "try\ncatch z", "class k\n  def z(s)", "class k\n  def m(z)",
                    "class k\n  def m(s)\n    say above z", "if no\n  if no\n    say z", "say (1 + (2 + (3 + z)))"):
            for text_ in (row, "say a\n" + row, row + "\nsay a"):
                self.assertRaises(NoName, renamed, read(text_), "a", "z")
            self.assertTrue(renamed(read(row), "a", "y") == read(row))

    def test_itself(self):
        self.assertRaises(NoName, renamed, read("say a"), "a", "a")
        self.assertTrue(renamed(read("say b"), "a", "a") == read("say b"))

    def test_words_and_phrases_do_not_occur(self):
        self.assertEqual(become("say a", "say 'z'", "ask b 'z'"), "say z\nsay 'z'\nask b 'z'")
        self.assertEqual(become("call a()", other="drop"), "call drop()")


class Results(unittest.TestCase):
    ROWS = lines("let a = no", "def f(a, b)", "  ask a 'q'", "  say [a, b]", "  give a", "class k", "  def f(a)", "    put a.a = 1",
                 "    give a.a", "let o = call k()", "try", "  while yes", "    say call f(a, a)", "    say call o.f()",
                 "    if a", "      raise a", "    set a = call f(1, 2)", "catch a", "  say a")

    def test_a_name_that_does_not_occur(self):
        program = read(self.ROWS)
        for one, other in (("x", "y"), ("x", "x")):
            result = renamed(program, one, other)
            self.assertIsInstance(result, Program)
            self.assertTrue(result == program)
        self.assertTrue(renamed(read(""), "a", "b") == read(""))

    def test_back_again(self):
        program = read(self.ROWS)
        for word in ("a", "b", "f", "k", "o"):
            there = renamed(program, word, "zz")
            self.assertFalse(there == program)
            self.assertTrue(renamed(there, "zz", word) == program)

    def test_alike(self):
        program = read(self.ROWS)
        for word in ("a", "b", "f", "k", "o"):
            for other in ("zz", "aa"):
                self.assertEqual(alike_programs(program, renamed(program, word, other))[0], "alike")

    def test_the_given_one_stays(self):
        program = read(self.ROWS)
        before = program.block()
        result = renamed(program, "a", "z")
        self.assertEqual(program.block(), before)
        for block in lists_in(result.block()):
            block.append(0)
        self.assertEqual(program.block(), before)
        self.assertTrue(renamed(program, "a", "z") == result)


if __name__ == "__main__":
    unittest.main()
