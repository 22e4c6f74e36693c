"""Looks at the things of a moment: reached and sharing of point [38]."""

import unittest

from helping import NOTHING, at, lines

from everyanswer.errors import NoName
from everyanswer.exchange import exchanged
from everyanswer.looks import reached, sharing

ENDS = ("", "say 1", "raise 1", "raise [1]", "while yes", "while yes\n  say 1")


class Reached(unittest.TestCase):
    def test_one_frame(self):
        self.assertEqual(reached(at("ask a 'q'")), (1, 1))
        self.assertIsInstance(reached(at("ask a 'q'")), tuple)
        self.assertEqual(reached(at("let a = 1\nask a 'q'")), (1, 1))
        self.assertEqual(reached(at("let a = []\nlet b = {}\nlet c = 'x'\nask a 'q'")), (1, 3))

    def test_only_what_can_be_come_to(self):
        self.assertEqual(reached(at("let a = [[], []]\nask a 'q'")), (1, 4))
        self.assertEqual(reached(at("let a = [[], []]\nask a 'q'\nask a 'r'", [True])), (1, 1))
        self.assertEqual(reached(at("let a = [[], []]\nset a = a[0]\nask a 'q'")), (1, 2))
        self.assertEqual(reached(at("let a = []\nlet b = [a, a]\nask a 'q'")), (1, 3))

    def test_several_frames(self):
        rows = lines("def f(n)", "  if (n == 0)", "    ask n 'q'", "  else", "    call f((n - 1))", "call f({})")
        for many in range(19):
            # Two things of the bottom frame, its scope and the function; a scope for each further one.
            self.assertEqual(reached(at(rows.format(many))), (many + 2, many + 3))
        self.assertEqual(reached(at(rows.format(19))), (0, 0))

    def test_all_kinds_of_things(self):
        moment = at(lines("class k", "  def m(s)", "class j over k", "let o = call j()", "let b = o.m", "ask a 'q'"))
        # The scope, k and its method, j, the object and the bound function.
        self.assertEqual(reached(moment), (1, 6))

    def test_at_no_question(self):
        for text in ENDS:
            self.assertEqual(reached(at(text)), (0, 0))
        self.assertEqual(reached(at("let a = []\nask b 'q'", [True])), (0, 0))
        self.assertEqual(reached(at("let a = 1\nask a 'q'\nwhile a", [True])), (0, 0))

    def test_behind_an_exchange(self):
        moment = at("def f()\n  def g()\nlet a = f\nask a 'q'")
        self.assertEqual(reached(moment), (1, 2))
        self.assertEqual(reached(exchanged(moment, (0, 0), [])), (1, 2))


class Sharing(unittest.TestCase):
    def shares(self, *rows):
        """Whether a and b share a thing at the question behind these lines."""
        moment = at(lines(*rows, "ask a 'q'"))
        one, other = sharing(moment, "a", "b"), sharing(moment, "b", "a")
        self.assertIs(one, other)
        return one

    def test_lists(self):
        self.assertIs(self.shares("let a = []", "let b = a"), True)
        self.assertIs(self.shares("let a = []", "let b = []"), False)
        self.assertIs(self.shares("let a = [1]", "let b = [a][0]", "add b, 2"), True)
        self.assertIs(self.shares("let a = []", "let b = a", "set a = [1]"), False)
        self.assertIs(self.shares("let a = [1]", "let b = [1]"), False)

    def test_each_kind_of_thing(self):
        self.assertIs(self.shares("let a = {}", "let b = a"), True)
        self.assertIs(self.shares("def a()", "let b = a"), True)
        self.assertIs(self.shares("class a", "let b = a"), True)
        self.assertIs(self.shares("class k", "let a = call k()", "let b = a"), True)
        self.assertIs(self.shares("class k", "  def m(s)", "let o = call k()", "let a = o.m", "let b = a"), True)
        # Each get makes a bound function of its own, but a method is one function.
        self.assertIs(self.shares("class k", "  def m(s)", "let o = call k()", "let a = o.m", "let b = o.m"), False)
        self.assertIs(self.shares("class k", "  def m(s)", "let a = k.m", "let b = k.m"), True)
        self.assertIs(self.shares("class k", "let a = call k()", "let b = call k()"), False)
        self.assertIs(self.shares("class k", "let a = k", "let b = call k()"), False)

    def test_no_things(self):
        for worth in ("none", "yes", "no", "0", "7", "'a'", "''"):
            self.assertIs(self.shares(f"let a = {worth}", f"let b = {worth}"), False)
            self.assertIs(self.shares(f"let a = {worth}", "let b = a"), False)
            self.assertIs(self.shares(f"let a = {worth}", "let b = []"), False)
        self.assertIs(self.shares("let a = 1", "let b = yes"), False)

    def test_unset(self):
        self.assertIs(self.shares("let c = []"), False)
        self.assertIs(self.shares("let a = []"), False)
        self.assertIs(self.shares("let b = []"), False)

    def test_the_same_name_twice(self):
        moment = at("let a = []\nlet b = 1\nask a 'q'")
        self.assertIs(sharing(moment, "a", "a"), True)
        self.assertIs(sharing(moment, "b", "b"), False)
        self.assertIs(sharing(moment, "c", "c"), False)

    def test_from_the_newest_frame(self):
        rows = ["let a = []", "let b = a", "let c = []", "def f(b)", "  ask b 'q'"]
        self.assertIs(sharing(at(lines(*rows, "call f(c)")), "a", "b"), False)
        self.assertIs(sharing(at(lines(*rows, "call f(c)")), "c", "b"), True)
        self.assertIs(sharing(at(lines(*rows, "call f(a)")), "a", "b"), True)
        self.assertIs(sharing(at(lines(*rows, "call f(1)")), "a", "b"), False)
        # A name of the caller's scope that is not around the function.
        rows = ["def f()", "  ask b 'q'", "def g(b)", "  call f()", "let a = []", "call g(a)"]
        self.assertIs(sharing(at(lines(*rows)), "a", "b"), False)

    def test_at_no_question(self):
        for text in ENDS:
            self.assertIs(sharing(at(text), "a", "a"), False)
        self.assertIs(sharing(at("let a = []\nlet c = 1\nask c 'q'", [True]), "a", "a"), False)

    def test_no_names(self):
        for text in ("let a = []\nask a 'q'",) + ENDS:
            moment = at(text)
            for thing in NOTHING + ["A", "abcdefghi", "ask", ("name", "a"), moment]:
                self.assertRaises(NoName, sharing, moment, thing, "a")
                self.assertRaises(NoName, sharing, moment, "a", thing)
                self.assertRaises(NoName, sharing, moment, thing, thing)
                self.assertRaises(NoName, sharing, moment, "b", thing)

    def test_make_is_a_name(self):
        self.assertIs(sharing(at("let make = []\nlet a = make\nask b 'q'"), "make", "a"), True)

    def test_the_moment_stays(self):
        moment = at("let a = [[]]\nlet b = a[0]\nask c 'q'")
        before = moment.shape()
        self.assertIs(sharing(moment, "a", "b"), False)
        self.assertEqual(reached(moment), (1, 3))
        self.assertEqual((moment.shape(), moment.event()), (before, ("ask", "q")))


if __name__ == "__main__":
    unittest.main()
