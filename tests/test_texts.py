"""Programs as texts and back: points [12] and [13]."""

import unittest

from helping import NO, NONE, YES, lines, name, nested, num, say, shallow, text
from making import made, made_flow

from everyanswer.errors import NoText
from everyanswer.programs import Program
from everyanswer.texts import program_text, read

ABOVE = ("above", "m")
EXPRESSIONS = [
    (NONE, "none"), (YES, "yes"), (NO, "no"), (num(0), "0"), (num(7), "7"), (num(999), "999"), (text(""), "''"),
    (text("a 1"), "'a 1'"), (text("yes"), "'yes'"), (name("abc"), "abc"), (name("calls"), "calls"),
    (("op", "+", num(1), name("a")), "(1 + a)"), (("op", "-", num(1), num(2)), "(1 - 2)"),
    (("op", "*", num(1), num(2)), "(1 * 2)"), (("op", "<", num(1), num(2)), "(1 < 2)"),
    (("op", "==", num(1), num(2)), "(1 == 2)"), (("op", "and", YES, NO), "(yes and no)"),
    (("op", "or", YES, NO), "(yes or no)"), (("not", YES), "(not yes)"), (("not", name("a")), "(not a)"),
    (("len", name("a")), "len(a)"), (("kind", text("")), "kind('')"), (("list", []), "[]"), (("list", [YES]), "[yes]"),
    (("list", [num(1), num(2), ("list", []), num(4)]), "[1, 2, [], 4]"), (("table", []), "{}"),
    (("table", [(num(1), YES)]), "{1: yes}"), (("table", [(num(1), YES), (text("a"), NO)]), "{1: yes, 'a': no}"),
    (("get", name("a"), "b"), "a.b"), (("get", num(5), "b"), "5.b"), (("get", text("a"), "b"), "'a'.b"),
    (("get", ("get", name("a"), "b"), "c"), "a.b.c"), (("at", name("a"), num(0)), "a[0]"),
    (("at", ("at", ("list", [YES]), num(0)), name("b")), "[yes][0][b]"),
    (("get", ("at", ("get", name("a"), "b"), ("get", name("c"), "d")), "e"), "a.b[c.d].e"),
    (("not", ("get", ("op", "+", num(1), ("not", YES)), "a")), "(not (1 + (not yes)).a)"),
    (("get", ("not", YES), "a"), "(not yes).a"), (("at", ("len", YES), NO), "len(yes)[no]"),
    (("get", ("table", []), "a"), "{}.a"), (("get", NONE, "a"), "none.a"),
    (("op", "and", ("op", "or", YES, NO), ("not", NO)), "((yes or no) and (not no))"),
]
METHOD_EXPRESSIONS = [(ABOVE, "above m"), (("get", ABOVE, "a"), "above m.a"), (("at", ABOVE, num(1)), "above m[1]"),
                      (("op", "+", ABOVE, ABOVE), "(above m + above m)"), (("list", [ABOVE, YES]), "[above m, yes]")]
STATEMENTS = [
    (("let", "a", YES), "let a = yes"), (("set", "a", num(1)), "set a = 1"),
    (("put", name("a"), "b", num(1)), "put a.b = 1"), (("put", ("get", name("a"), "b"), "c", YES), "put a.b.c = yes"),
    (("put", ("at", name("a"), num(1)), "c", YES), "put a[1].c = yes"), (("put", num(5), "b", YES), "put 5.b = yes"),
    (("place", name("a"), num(1), YES), "put a[1] = yes"),
    (("place", ("get", name("a"), "b"), ("list", []), YES), "put a.b[[]] = yes"),
    (("place", ("at", name("a"), num(0)), num(1), YES), "put a[0][1] = yes"),
    (("add", name("a"), ("list", [YES, NO])), "add a, [yes, no]"), (("cut", name("a")), "cut a"),
    (("say", text("a")), "say 'a'"), (("ask", "a", "is it 5"), "ask a 'is it 5'"), (("ask", "a", ""), "ask a ''"),
    (("raise", YES), "raise yes"), (("call", "drop", None, name("f"), []), "call f()"),
    (("call", "drop", None, name("f"), [YES]), "call f(yes)"),
    (("call", "let", "a", name("f"), [YES, NO, num(3)]), "let a = call f(yes, no, 3)"),
    (("call", "set", "a", ("get", name("b"), "c"), []), "set a = call b.c()"),
    (("call", "say", None, ("len", name("a")), [("len", name("a"))]), "say call len(a)(len(a))"),
    (("call", "say", None, ("op", "+", YES, NO), []), "say call (yes + no)()"),
    (("call", "drop", None, ("list", []), []), "call []()"), (("if", YES, [], []), "if yes"),
    (("if", YES, [say()], []), "if yes\n  say 1"), (("if", YES, [], [say()]), "if yes\nelse\n  say 1"),
    (("if", YES, [say(1), say(2)], [say(3)]), "if yes\n  say 1\n  say 2\nelse\n  say 3"),
    (("while", YES, []), "while yes"), (("while", YES, [("leave",), say()]), "while yes\n  leave\n  say 1"),
    (("try", [], "a", [], []), "try\ncatch a"), (("try", [say(1)], "a", [say(2)], []), "try\n  say 1\ncatch a\n  say 2"),
    (("try", [say(1)], "a", [say(2)], [say(3)]), "try\n  say 1\ncatch a\n  say 2\nlast\n  say 3"),
    (("try", [], "a", [], [say(3)]), "try\ncatch a\nlast\n  say 3"),
    (("try", [], None, [], [say(3)]), "try\nlast\n  say 3"),
    (("try", [say()], None, [], [say(3)]), "try\n  say 1\nlast\n  say 3"), (("def", "f", [], []), "def f()"),
    (("def", "f", ["x"], [("give", YES)]), "def f(x)\n  give yes"),
    (("def", "f", ["x", "y", "z"], [("call", "give", None, YES, [NO])]), "def f(x, y, z)\n  give call yes(no)"),
    (("class", "k", None, []), "class k"), (("class", "k", name("j"), []), "class k over j"),
    (("class", "k", ("at", name("j"), num(0)), [("m", ["x"], []), ("n", ["x", "y"], [say(1), ("say", ABOVE)])]),
     "class k over j[0]\n  def m(x)\n  def n(x, y)\n    say 1\n    say above m"),
    (("if", YES, [("if", NO, [say(1)], [say(2)]), ("while", YES, [("class", "k", None, [("m", ["x"], [say(3)])])])],
      [("try", [("try", [], "a", [], [])], "b", [], [])]),
     "if yes\n  if no\n    say 1\n  else\n    say 2\n  while yes\n    class k\n      def m(x)\n        say 3\n"
     "else\n  try\n    try\n    catch a\n  catch b"),
]


def line_of(value):
    """The line of NoText, or None where there is a program."""
    try:
        found = read(value)
    except NoText as e:
        return e.line
    assert program_text(found) == value
    return None


class Writing(unittest.TestCase):
    def test_empty(self):
        self.assertEqual(program_text(Program([])), "")
        self.assertEqual(read(""), Program([]))

    def test_statements(self):
        for statement, want in STATEMENTS:
            self.assertEqual(program_text(Program([statement])), want)
            self.assertEqual(read(want), Program([statement]))
            self.assertEqual(program_text(Program([say(), statement, say(2)])), f"say 1\n{want}\nsay 2")

    def test_expressions(self):
        for e, want in EXPRESSIONS:
            self.assertEqual(program_text(Program([("say", e)])), f"say {want}")
            self.assertEqual(read(f"say {want}"), Program([("say", e)]))

    def test_above(self):
        for e, want in METHOD_EXPRESSIONS:
            program = Program([("class", "k", None, [("m", ["x"], [("say", e), ("give", e)])])])
            found = f"class k\n  def m(x)\n    say {want}\n    give {want}"
            self.assertEqual(program_text(program), found)
            self.assertEqual(read(found), program)

    def test_random_programs(self):
        for seed in range(150):
            for program in (made(seed), made_flow(seed)):
                self.assertEqual(read(program_text(program)), program)


class Lines(unittest.TestCase):
    """Which line NoText tells."""

    def test_no_string(self):
        for thing in (None, True, 1, [], [""], ("say 1",), {}, Program([])):
            self.assertEqual(line_of(thing), -1)

    def test_examples(self):
        self.assertEqual(line_of("else"), 0)
        self.assertEqual(line_of("try\nsay 1"), 1)
        self.assertEqual(line_of("try"), 1)
        self.assertEqual(line_of("try\nlast"), 2)
        self.assertEqual(line_of("if yes\nelse"), 2)
        self.assertEqual(line_of("if yes\nelse\nsay 1"), 2)

    def test_empty_lines(self):
        self.assertEqual(line_of("\n"), 0)
        self.assertEqual(line_of("say 1\n"), 1)
        self.assertEqual(line_of("say 1\n\nsay 1"), 1)
        self.assertEqual(line_of("\nsay 1"), 0)
        self.assertEqual(line_of("  "), 0)
        self.assertEqual(line_of("if yes\n  "), 1)

    def test_bad_characters(self):
        for sign in ("\t", "\r", "\x00", "\u00e9", "\u2028", "\u0663", "\ud800", "\x0b", "\x0c", "\x85", "\U0001f600"):
            for row in (f"say 1{sign}", f"{sign}say 1", f"say{sign}1", f"say '{sign}'", f"let {sign} = 1", sign,
                        f"say {sign}"):
                self.assertEqual(line_of(f"say 1\n{row}\nsay 1"), 1, repr(row))

    def test_wrong_lines(self):
        for row in ("say  1", "say 1 ", " say 1", "say", "say ", "say1", "Say 1", "say 1 1", "say 1;", "say 01", "say 00",
                    "say 1000", "say 0999", "say -1", "say +1", "say 1.0", "say 1.", "say a.1", "say a. b", "say a .b",
                    "say a[0", "say a[]", "say a[0, 1]", "say a[ 0]", "say a[0 ]", "say a [0]", "say (a)",
                    "say (a+b)", "say (a +b)", "say (a  + b)", "say ( a + b)", "say (a + b )", "say a + b",
                    "say (a + b", "say (a + b + c)", "say (a > b)", "say (a <= b)", "say (a = b)", "say (a / b)",
                    "say (a not b)", "say (a == b", "say (not  a)", "say (nota)", "say not a", "say (not a",
                    "say (and a b)", "say len a", "say len (a)", "say len()", "say len(a, b)", "say len(a", "say len",
                    "say kind", "say kind()", "say [1,2]", "say [1 , 2]", "say [1, 2,]", "say [1, 2, ]", "say [ ]",
                    "say [, 1]", "say [1", "say [", "say [1, 2, 3, 4, 5]", "say {1:2}", "say {1 : 2}", "say {1}",
                    "say {1: 2,}", "say {1: 2, }", "say {1: 2, 3}", "say { }", "say {", "say {1: }", "say {: 1}",
                    "say {1: 1, 2: 2, 3: 3, 4: 4, 5: 5}", "say 'a", "say a'", "say 'A'", "say 'a-b'", 'say "a"',
                    "say 'abcdefghijklmnopqrstu'", "say ''''", "say 'a''b'", "say abcdefghi", "say if", "say at",
                    "say let", "say over", "say a1", "say a_b", "say A", "say )", "say ]", "say .", "say '",
                    "say above m", "say above", "say none none", "say nones1", "let a", "let a =", "let a = ",
                    "let a= 1", "let a =1", "let a  = 1", "let a == 1", "let yes = 1", "let a.b = 1", "let 1 = 1",
                    "let = 1", "let", "set", "set a", "set a 1", "put a = 1", "put a.b", "put a.b = ", "put a.b =1",
                    "put a[1] =", "put 1 = 1", "put (a + b) = 1", "put [1] = 1", "put len(a) = 1", "add a", "add a b",
                    "add a,b", "add a, ", "add a, b, c", "add", "cut", "cut a, b", "ask a", "ask 'a'", "ask a b",
                    "ask a  'b'", "ask a 'B'", "ask a'b'", "ask", "ask a 'b' ", "ask a.b 'b'", "call", "call f", "call f(",
                    "call f)", "call f(1", "call f(1,2)", "call f( 1)", "call f(1 )", "call f(,)", "call f (1)",
                    "call f(1, 2, 3, 4)", "call f()()", "call (f)()", "call len()", "call len(f)", "callf()",
                    "say callf()", "say call f", "let a = callf()", "call call f()", "say say 1",
                    "let a = let b = 1", "let a = set b = 1", "cut call f()", "raise call f()", "if call f()",
                    "add call f(), 1", "put call f().a = 1", "let a = say call f()", "if", "if ", "if yes:", "if yes ",
                    "while", "while yes ", "leave", "leave ", "leave 1", "give 1", "give", "give call f()", "raise",
                    "raise ", "try ", "try 1", "try:", "catch", "catch a", "catch ", "last", "last ", "else", "else ",
                    "else if yes", "def", "def f", "def f(", "def f(1)", "def f(a,b)", "def f(a a)", "def f(a, a)",
                    "def f(a, b, c, d)", "def f (a)", "def f()a", "def f() ", "def if()", "def f(if)", "def f(a, )",
                    "class", "class ", "class k ", "class k over", "class k over ", "class k overj", "class if",
                    "class k over if", "class k over j over i", "class k()", "class k(x)", "place a[1] = 1", "at",
                    "over", "none", "yes", "1", "'a'", "f()", "a = 1", "# a", "over k", "drop call f()",
                    "let a = callx()"):
            self.assertEqual(line_of(f"say 1\n{row}"), 1, row)
            self.assertEqual(line_of(row), 0, row)
            self.assertEqual(line_of(f"say 1\n{row}\nsay 1\nelse"), 1, row)

    def test_names_that_begin_like_words(self):
        for row in ("let a = callx", "say callx", "say lenx", "say kinds", "say abovex", "say noneb", "say yess",
                    "say nota", "say (nota + notb)", "say (a and andb)", "say (a or orb)", "class overx",
                    "class k over overx", "say lets", "let lets = 1", "ask asks 'a'", "def defs(deff)"):
            self.assertIsNone(line_of(row), row)

    def test_spaces_ahead(self):
        self.assertEqual(line_of("if yes\n say 1"), 1)
        self.assertEqual(line_of("if yes\n   say 1"), 1)
        self.assertEqual(line_of("if yes\n    say 1"), 1)
        self.assertEqual(line_of("if yes\n  say 1\n    say 1"), 2)
        self.assertEqual(line_of("say 1\n  say 1"), 1)
        self.assertEqual(line_of("if yes\n  if yes\n    say 1\n   say 1"), 3)
        self.assertEqual(line_of("if yes\n  say 1\n else\n  say 1"), 2)
        self.assertEqual(line_of("  say 1"), 0)
        self.assertEqual(line_of("if yes\nxxsay 1"), 1)
        self.assertEqual(line_of("class k\n  def m(x)\n   say 1"), 2)
        self.assertEqual(line_of("class k\n  def m(x)\n      say 1"), 2)
        self.assertIsNone(line_of("if yes\n  if yes\n    say 1\n  say 1\nsay 1"))
        self.assertIsNone(line_of("if yes\n  if yes\n    if yes\nsay 1"))

    def test_else(self):
        self.assertEqual(line_of("say 1\nelse"), 1)
        self.assertEqual(line_of("while yes\nelse"), 1)
        self.assertEqual(line_of("if yes\n  else"), 1)
        self.assertEqual(line_of("if yes\nsay 1\nelse\n  say 1"), 2)
        self.assertEqual(line_of("if yes\nelse\n  say 1\nelse\n  say 1"), 3)
        self.assertEqual(line_of("if yes\nelse\nelse"), 2)
        self.assertEqual(line_of("if yes\n  if yes\n  else\n    say 1\n  else"), 4)
        self.assertEqual(line_of("if yes\n  if yes\n  else\nelse"), 3)
        self.assertIsNone(line_of("if yes\n  if yes\n  else\n    say 1\nelse\n  say 1"))
        self.assertIsNone(line_of("if yes\nelse\n  if yes"))
        self.assertEqual(line_of("if yes\nelse\n  else"), 2)
        self.assertEqual(line_of("if yes\nelse\n  try"), 3)
        self.assertEqual(line_of("def f()\nelse"), 1)
        self.assertEqual(line_of("try\nelse"), 1)

    def test_catch_and_last(self):
        self.assertEqual(line_of("if yes\ncatch a"), 1)
        self.assertEqual(line_of("say 1\ncatch a"), 1)
        self.assertEqual(line_of("say 1\nlast"), 1)
        self.assertEqual(line_of("if yes\nlast"), 1)
        self.assertEqual(line_of("try\ncatch a\ncatch b"), 2)
        self.assertEqual(line_of("try\nlast\n  say 1\ncatch a"), 3)
        self.assertEqual(line_of("try\nlast\n  say 1\nlast"), 3)
        self.assertEqual(line_of("try\nlast\ncatch a"), 2)
        self.assertEqual(line_of("try\nlast\nlast"), 2)
        self.assertEqual(line_of("try\ncatch a\nlast"), 3)
        self.assertEqual(line_of("try\ncatch a\nlast\nsay 1"), 3)
        self.assertEqual(line_of("try\n  catch a"), 1)
        self.assertEqual(line_of("try\n  last"), 1)
        self.assertEqual(line_of("try\ncatch if"), 1)
        self.assertEqual(line_of("try\ncatch a\nsay 1\nlast"), 3)
        self.assertIsNone(line_of("try\ncatch a\nsay 1"))
        self.assertIsNone(line_of("try\n  say 1\ncatch a\n  say 1\nlast\n  say 1\nsay 1"))

    def test_try_that_is_left_too_early(self):
        self.assertEqual(line_of("if yes\n  try\nsay 1"), 2)
        self.assertEqual(line_of("if yes\n  try\nelse"), 2)
        self.assertEqual(line_of("if yes\n  try\n    say 1\n  say 1"), 3)
        self.assertEqual(line_of("try\n  try\ncatch a"), 2)
        self.assertEqual(line_of("try\n  try\n  catch b\ncatch a\n  try"), 5)
        self.assertEqual(line_of("try\n  say 1\n  say 1"), 3)
        self.assertEqual(line_of("def f()\n  try\n    say 1\ndef g()"), 3)
        self.assertEqual(line_of("class k\n  def m(x)\n    try\n  def n(x)"), 3)
        self.assertEqual(line_of("try\ntry"), 1)
        self.assertEqual(line_of("try\n  if yes\n  else\ncatch a"), 3)
        self.assertEqual(line_of("try\n  try\n  last\n    say 1\nlast"), 5)

    def test_classes(self):
        self.assertEqual(line_of("class k\n  say 1"), 1)
        self.assertEqual(line_of("class k\n  def m()"), 1)
        self.assertEqual(line_of("class k\n  def m(x)\n  def m(y)"), 2)
        self.assertEqual(line_of("class k\n  def m(x)\n  say 1"), 2)
        self.assertEqual(line_of("class k\n  def m(x)\n    def n()\n  def n()"), 3)
        self.assertEqual(line_of("class k\n    say 1"), 1)
        self.assertEqual(line_of(lines("class k", *[f"  def {m}(x)" for m in "abcde"])), 5)
        self.assertIsNone(line_of(lines("class k", *[f"  def {m}(x)" for m in "abcd"], "def e()")))
        self.assertEqual(line_of("class k\n  else"), 1)
        self.assertEqual(line_of("class k\nelse"), 1)
        self.assertEqual(line_of("class k\n  class j"), 1)
        self.assertEqual(line_of("class k\n  def m(x, x)"), 1)
        self.assertEqual(line_of("class k\n  def m(x, y, z, u)"), 1)

    def test_leave_give_and_above(self):
        self.assertEqual(line_of("say 1\nleave"), 1)
        self.assertEqual(line_of("while yes\n  say 1\nleave"), 2)
        self.assertEqual(line_of("while yes\n  def f()\n    leave"), 2)
        self.assertEqual(line_of("while yes\n  class k\n    def m(x)\n      leave"), 3)
        self.assertIsNone(line_of("while yes\n  if yes\n    leave\n  leave"))
        self.assertEqual(line_of("say 1\ngive 1"), 1)
        self.assertEqual(line_of("def f()\n  give 1\ngive 1"), 2)
        self.assertEqual(line_of("def f()\n  give call f()\ngive call f()"), 2)
        self.assertIsNone(line_of("def f()\n  while yes\n    give 1"))
        self.assertEqual(line_of("class k\n  def m(x)\n    say above m\nsay above m"), 3)
        self.assertEqual(line_of("class k\n  def m(x)\n    def f(x)\n      say [above m]"), 3)
        self.assertIsNone(line_of("class k\n  def m(x)\n    if above m\n      give call above m(above m)"))
        self.assertEqual(line_of("def f(x)\n  give above m"), 1)
        self.assertEqual(line_of("class k over above m"), 0)

    def test_many_in_a_block(self):
        self.assertIsNone(line_of(lines(*["say 1"] * 12)))
        self.assertEqual(line_of(lines(*["say 1"] * 13)), 12)
        self.assertEqual(line_of(lines("if yes", *["  say 1"] * 13)), 13)
        self.assertEqual(line_of(lines("if yes", *["  say 1"] * 12, "else", *["  say 1"] * 13)), 26)
        self.assertEqual(line_of(lines(*["if yes\n  say 1"] * 13)), 24)
        self.assertEqual(line_of(lines(*["say 1"] * 12, "else")), 12)
        self.assertEqual(line_of(lines("class k", "  def m(x)", *["    say 1"] * 13)), 14)

    def eighty(self, *end):
        """Eighty statements, the last of them the first of these lines, and the lines behind it."""
        eleven = lines("if yes", *["  say 1"] * 10)
        return lines(*[eleven] * 7, "say 1", "say 1", *end)

    def test_eighty_statements(self):
        self.assertIsNone(line_of(self.eighty("say 1")))
        many = len(self.eighty("say 1").split("\n"))
        self.assertEqual(many, 80)
        self.assertEqual(line_of(self.eighty("say 1", "say 1")), many)
        self.assertEqual(line_of(self.eighty("if yes", "else")), many)
        self.assertEqual(line_of(self.eighty("if yes", "else", "  say 1")), many)
        self.assertEqual(line_of(self.eighty("if yes", "  say 1")), many)
        self.assertEqual(line_of(self.eighty("try", "last")), many)
        self.assertEqual(line_of(self.eighty("try", "last", "  say 1")), many)
        self.assertEqual(line_of(self.eighty("try")), many)
        self.assertIsNone(line_of(self.eighty("try", "catch a")))
        self.assertEqual(line_of(self.eighty("try", "catch a", "last")), many + 1)
        self.assertEqual(line_of(self.eighty("try", "catch a", "  say 1")), many + 1)
        self.assertIsNone(line_of(self.eighty("class k", "  def m(x)", "  def n(x)")))
        self.assertEqual(line_of(self.eighty("class k", "  def m(x)", "    say 1")), many + 1)
        self.assertIsNone(line_of(self.eighty("while yes")))

    def test_seventy_nine_statements(self):
        eleven = lines("if yes", *["  say 1"] * 10)
        ahead = lines(*[eleven] * 7, "say 1")
        self.assertIsNone(line_of(lines(ahead, "if yes", "else", "  say 1")))
        self.assertEqual(line_of(lines(ahead, "if yes", "else", "  try")), 81)
        self.assertIsNone(line_of(lines(ahead, "if yes", "else", "  try", "  catch a")))
        self.assertEqual(line_of(lines(ahead, "if yes", "else", "  if yes", "  else")), 81)
        self.assertIsNone(line_of(lines(ahead, "try", "last", "  say 1")))
        self.assertIsNone(line_of(lines(ahead, "try", "catch a", "last", "  say 1")))
        self.assertEqual(line_of(lines(ahead, "try", "  say 1", "last")), 80)
        self.assertEqual(line_of(lines(ahead, "try", "  try", "  last")), 80)
        self.assertIsNone(line_of(lines(ahead, "try", "  try", "  catch a", "catch a")))

    def test_depth_of_blocks(self):
        rows = ["  " * depth + "if yes" for depth in range(8)]
        self.assertIsNone(line_of(lines(*rows[:7], "  " * 7 + "say 1")))
        self.assertEqual(line_of(lines(*rows)), 7)
        for row in ("while yes", "try", "def f()"):
            self.assertEqual(line_of(lines(*rows[:7], "  " * 7 + row)), 7, row)
        self.assertIsNone(line_of(lines(*rows[:7], "  " * 7 + "class k")))
        self.assertEqual(line_of(lines(*rows[:7], "  " * 7 + "class k", "  " * 8 + "def m(x)")), 8)
        self.assertIsNone(line_of(lines(*rows[:6], "  " * 6 + "class k", "  " * 7 + "def m(x)", "  " * 8 + "say 1")))
        self.assertEqual(line_of(lines(*rows[:6], "  " * 6 + "class k", "  " * 7 + "def m(x)", "  " * 8 + "try")), 8)

    def test_depth_of_expressions(self):
        for begin, end in (("(not ", ")"), ("len(", ")"), ("[", "]"), ("{", ": 1}"), ("{1: ", "}"), ("a[", "]"),
                           ("(1 + ", ")"), ("(", " + 1)"), ("[1, ", "]")):
            for depth in range(1, 9):
                for innermost in ("a", "[]", "{}", "7"):
                    e = begin * (depth - 1) + innermost + end * (depth - 1)
                    for row in (f"say {e}", f"let b = {e}", f"add b, {e}", f"call b({e}, 1)", f"put {e}.b = {e}",
                                f"put {e}[{e}] = 1", f"if {e}", f"class k over {e}", f"say call {e}({e})"):
                        want = None if depth <= 5 else 0
                        self.assertEqual(line_of(row), want, row)

    def test_depth_of_above(self):
        for depth in range(1, 9):
            row = "    say " + "(not " * (depth - 1) + "above m" + ")" * (depth - 1)
            self.assertEqual(line_of(lines("class k", "  def m(x)", row)), None if depth <= 5 else 2)

    def test_depth_of_rows_of_fields(self):
        for many in range(9):
            for part in (".b", "[1]", "[b[1]]"):
                inner = 1 if part == "[b[1]]" and many > 0 else 0
                want = None if many + 1 + inner <= 5 else 0
                self.assertEqual(line_of("say a" + part * many), want)
                self.assertEqual(line_of("say [a" + part * many + "]"), None if many + 2 + inner <= 5 else 0)
            self.assertEqual(line_of("put a" + ".b" * many + ".c = 1"), None if many <= 4 else 0)
            self.assertEqual(line_of("put a" + ".b" * many + "[a" + ".b" * many + "] = 1"), None if many <= 4 else 0)

    def test_long_texts(self):
        for begin in ("(", "[", "{", "len(", "(not ", "a[", "a.", "((", "[[1], ", "kind([", "-", "'", "a", "1", " ", "(1 + ",
                      "{1: ", "above ", "a[a", "]", ")"):
            for ahead in ("say ", "put ", "call ", "let a = ", "if ", ""):
                row = (ahead + begin * 20000)[:20000]
                self.assertEqual(line_of(row), 0, row[:20])
                self.assertEqual(line_of(("say 1\n" + row)[:20000]), 1)
        whole = "(" * 6000 + "a" + " + 1)" * 2000
        self.assertEqual(line_of("say " + whole), 0)
        self.assertEqual(line_of("say " + "[" * 9000 + "]" * 9000), 0)
        self.assertEqual(line_of("say [" + ", ".join(["1"] * 6000) + "]"), 0)
        self.assertEqual(line_of("\n" * 20000), 0)
        self.assertEqual(line_of("say 1\n" * 3000), 12)
        self.assertEqual(line_of("if yes\n" * 2000), 12)
        deep = "\n".join("  " * depth + "if yes" for depth in range(190))
        self.assertEqual(line_of(deep[:20000]), 7)
        self.assertEqual(line_of("def f(" + "a, " * 6000 + "a)"), 0)
        self.assertEqual(line_of("call f(" + "a, " * 6000 + "a)"), 0)

    def test_limits_of_numbers_of_parts(self):
        self.assertIsNone(line_of("say [1, 2, 3, 4]"))
        self.assertIsNone(line_of("say {1: 1, 2: 2, 3: 3, 4: 4}"))
        self.assertIsNone(line_of("call f(1, 2, 3)"))
        self.assertIsNone(line_of("def f(a, b, c)"))
        self.assertIsNone(line_of("say '" + "a" * 20 + "'"))
        self.assertIsNone(line_of("say " + "a" * 8))

    def test_parts_of_random_texts(self):
        """Every beginning of a text of a program is one of a program, or is so with more lines behind it."""
        for seed in range(40):
            for program in (made(seed), made_flow(seed)):
                rows = program_text(program).split("\n")
                for many in range(1, len(rows)):
                    found = line_of("\n".join(rows[:many]))
                    self.assertIn(found, (None, many))

    def test_random_changes(self):
        """A line that NoText tells is wrong there whatever follows, and the lines ahead of it are not."""
        for seed in range(40):
            rows = program_text(made_flow(seed)).split("\n")
            others = program_text(made_flow(seed + 1000)).split("\n")
            at = seed * 7 % len(rows)
            for changed in (rows[:at] + rows[at + 1:], rows[:at] + [" " + rows[at]] + rows[at + 1:],
                            rows[:at] + [rows[at].lstrip()] + rows[at + 1:], rows[:at] + others[at:],
                            rows[:at] + ["else"] + rows[at:], rows[:at] + ["  last"] + rows[at:]):
                found = line_of("\n".join(changed))
                if found is None:
                    continue
                self.assertTrue(self.can_go_on(changed[:found]), changed[:found])
                if found < len(changed):
                    self.assertFalse(self.can_go_on(changed[:found + 1]), changed[:found + 1])

    def can_go_on(self, rows):
        """Whether some few lines behind these make a text of a program."""
        waiting = [list(rows)]
        for _ in range(12):
            later = []
            for one in waiting:
                found = line_of("\n".join(one)) if one else None
                if found is None:
                    return True
                if found == len(one):
                    margins = sorted({len(row) - len(row.lstrip(" ")) for row in one})
                    ends = [" " * margin + "catch a" for margin in margins]
                    ends += [" " * (margins[-1] + 2) + "say 1", " " * (len(one[-1]) - len(one[-1].lstrip()) + 2) + "say 1"]
                    later.extend(one + [end] for end in ends)
            waiting = later[:40]
        return False


class NoRecursion(unittest.TestCase):
    def test_a_deep_program(self):
        e = nested(4, YES, lambda inner: ("list", [inner] * 4))
        rows = nested(4, YES, lambda inner: ("table", [(inner, inner)]))
        call = ("call", "drop", None, rows, [e, e])
        for wrap in (lambda s: ("while", YES, [s]), lambda s: ("class", "k", None, [("m", ["x"], [s])])):
            block = [nested(7, call, wrap)]
            program = shallow(Program, block)
            self.assertEqual(shallow(program.block), block)
            self.assertEqual(shallow(program.__getitem__, program.paths()[0]), block[0])
            self.assertEqual(shallow(read, shallow(program_text, program)), program)
            self.assertTrue(shallow(program.__eq__, Program(block)))

    def test_many_brackets(self):
        for begin in ("(", "[", "{", "len(", "(not ", "a[", "a.", "{1: ", "(1 + "):
            with self.assertRaises(NoText):
                shallow(read, ("say " + begin * 20000)[:20000])


if __name__ == "__main__":
    unittest.main()
