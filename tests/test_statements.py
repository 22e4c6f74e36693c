"""Statements and calls: points [15], [16], [19] and [20]."""

import unittest

from helping import fails, last, lines, run, said

LIST = lines("let l = []", "let n = 0", "while (n < 12)", "  add l, n", "  set n = (n + 1)")
TABLE = lines("let d = {}", "let n = 0", "while (n < 12)", "  put d[n] = n", "  set n = (n + 1)")


def after(statement, shown, *ahead):
    """The error of a statement and what is said of this expression behind it."""
    found = said(lines(*ahead, "let err = none", "try", f"  {statement}", "catch err", "say err", f"say {shown}"))
    return found[-2], found[-1]


class Names(unittest.TestCase):
    def test_let_and_set(self):
        self.assertEqual(said("let a = 1\nlet a = 2\nsay a\nset a = 3\nsay a"), ["2", "3"])
        self.assertEqual(fails("set a = 1"), "unset")

    def test_the_expression_goes_ahead(self):
        self.assertEqual(fails("set a = (1 + yes)"), "kind")
        self.assertEqual(fails("let a = a"), "unset")

    def test_scopes(self):
        rows = ["let a = 1", "def f()", "  say a", "  set a = 2", "  let a = 3", "  say a", "  set a = 4", "  say a",
                "call f()", "say a"]
        self.assertEqual(said(lines(*rows)), ["1", "3", "4", "2"])

    def test_the_scope_of_a_call_is_a_new_one(self):
        rows = ["def f(x)", "  let y = x", "  say y", "call f(1)", "call f(2)", "say y"]
        self.assertEqual(run(lines(*rows)), [("say", "1"), ("say", "2"), ("failed", "unset")])

    def test_around_it_is_the_scope_of_the_making(self):
        rows = ["let a = 'top'", "def f()", "  give a", "def g()", "  let a = 'g'", "  give call f()", "say call g()"]
        self.assertEqual(said(lines(*rows)), ["top"])

    def test_functions_keep_their_surroundings(self):
        rows = ["def make(n)", "  def count()", "    set n = (n + 1)", "    give n", "  give count", "let a = call make(0)",
                "let b = call make(10)", "say call a()", "say call a()", "say call b()", "say call a()"]
        self.assertEqual(said(lines(*rows)), ["1", "2", "11", "3"])

    def test_a_name_that_comes_later_is_found(self):
        self.assertEqual(said("def f()\n  give a\nlet a = 1\nsay call f()"), ["1"])
        self.assertEqual(fails("def f()\n  let a = 1\ncall f()\nsay a"), "unset")

    def test_blocks_have_no_scope(self):
        self.assertEqual(said("if yes\n  let a = 1\nsay a"), ["1"])
        self.assertEqual(said("let a = no\nwhile (not a)\n  let a = yes\nsay a"), ["yes"])


class Things(unittest.TestCase):
    def test_put(self):
        self.assertEqual(said("class k\nlet o = call k()\nput o.a = 1\nput o.b = 2\nput o.a = 3\nsay [o.a, o.b]"), ["[3, 2]"])
        for other in ("none", "yes", "1", "'a'", "[]", "{}", "k", "f"):
            self.assertEqual(fails(f"class k\ndef f()\nput {other}.a = 1"), "kind")
        self.assertEqual(fails("put 1.a = nobody"), "unset")
        self.assertEqual(fails("put nobody.a = (1 + yes)"), "unset")

    def test_place_in_a_list(self):
        self.assertEqual(said("let l = [1, 2]\nput l[0] = 3\nput l[1] = l\nsay l"), ["[3, [..]]"])
        self.assertEqual(after("put l[2] = 5", "l", "let l = [1, 2]"), ("range", "[1, 2]"))
        self.assertEqual(after("put l[(0 - 1)] = 5", "l", "let l = [1, 2]"), ("range", "[1, 2]"))
        for key in ("none", "yes", "no", "'0'", "[]", "l"):
            self.assertEqual(after(f"put l[{key}] = 5", "l", "let l = [1, 2]"), ("kind", "[1, 2]"))

    def test_place_in_a_table(self):
        self.assertEqual(said("let d = {}\nput d['b'] = 1\nput d[1] = 2\nput d[yes] = 3\nput d['b'] = 4\nput d[none] = 5\n"
                              "say d"), ["{'b': 4, 1: 2, yes: 3, none: 5}"])
        for key in ("[]", "{}", "d", "f"):
            self.assertEqual(after(f"put d[{key}] = 5", "d", "def f()", "let d = {1: 1}"), ("kind", "{1: 1}"))

    def test_twelve_rows(self):
        self.assertEqual(after("put d[12] = 1", "len(d)", TABLE), ("great", "12"))
        self.assertEqual(after("put d[yes] = 1", "len(d)", TABLE), ("great", "12"))
        self.assertEqual(after("put d[11] = 'a'", "d[11]", TABLE), ("none", "a"))
        self.assertEqual(after("put d[[]] = 1", "len(d)", TABLE), ("kind", "12"))

    def test_place_in_others(self):
        for other in ("none", "yes", "1", "'abc'", "f", "k"):
            self.assertEqual(fails(f"class k\ndef f()\nput {other}[0] = 1"), "kind")
            self.assertEqual(fails(f"class k\ndef f()\nput {other}[0] = nobody"), "unset")
            self.assertEqual(fails(f"class k\ndef f()\nput {other}[nobody] = [][0]"), "unset")
        self.assertEqual(fails("put [][0] = nobody"), "unset")
        self.assertEqual(fails("put [][[][0]] = nobody"), "range")

    def test_add(self):
        self.assertEqual(said("let l = []\nadd l, 1\nadd l, l\nsay l"), ["[1, [..]]"])
        self.assertEqual(after("add l, 12", "len(l)", LIST), ("great", "12"))
        for other in ("none", "yes", "1", "'a'", "{}", "f"):
            self.assertEqual(fails(f"def f()\nadd {other}, 1"), "kind")
            self.assertEqual(fails(f"def f()\nadd {other}, nobody"), "unset")
        self.assertEqual(after("add l, nobody", "len(l)", LIST), ("unset", "12"))

    def test_cut(self):
        self.assertEqual(said("let l = [1, 2]\ncut l\nsay l\ncut l\nsay l"), ["[1]", "[]"])
        self.assertEqual(fails("cut []"), "range")
        for other in ("none", "yes", "1", "'a'", "{}", "{1: 1}", "f"):
            self.assertEqual(fails(f"def f()\ncut {other}"), "kind")

    def test_an_error_leaves_all_else_as_it_was(self):
        self.assertEqual(after("let a = (1 + yes)", "a", "let a = 5"), ("kind", "5"))
        self.assertEqual(after("set a = (1 + yes)", "a", "let a = 5"), ("kind", "5"))
        self.assertEqual(after("say (1 + yes)", "a", "let a = 5"), ("kind", "5"))
        self.assertEqual(said("let l = []\ntry\n  put l[0] = 1\n  add l, 2\ncatch err\nsay l"), ["[]"])


class Branches(unittest.TestCase):
    def test_if(self):
        self.assertEqual(said("if yes\n  say 1\nelse\n  say 2\nsay 3"), ["1", "3"])
        self.assertEqual(said("if no\n  say 1\nelse\n  say 2\nsay 3"), ["2", "3"])
        self.assertEqual(said("if no\n  say 1\nsay 3"), ["3"])
        self.assertEqual(said("if yes\nelse\n  say 2\nsay 3"), ["3"])
        self.assertEqual(said("if no\nif yes\nsay 3"), ["3"])
        for other in ("none", "1", "0", "'yes'", "[]"):
            self.assertEqual(run(f"if {other}\n  say 1\nelse\n  say 2"), [("failed", "kind")])

    def test_while(self):
        self.assertEqual(said("let n = 0\nwhile (n < 3)\n  set n = (n + 1)\n  say n\nsay 'end'"), ["1", "2", "3", "end"])
        self.assertEqual(said("while no\n  say 1\nsay 2"), ["2"])
        self.assertEqual(said("while no\nsay 2"), ["2"])
        for other in ("none", "1", "0", "'yes'", "[]"):
            self.assertEqual(run(f"while {other}\n  say 1"), [("failed", "kind")])
        self.assertEqual(run("let a = yes\nwhile a\n  set a = 1"), [("failed", "kind")])

    def test_leave(self):
        self.assertEqual(said("while yes\n  say 1\n  leave\n  say 2\nsay 3"), ["1", "3"])
        self.assertEqual(said("while yes\n  if yes\n    leave\nsay 3"), ["3"])
        self.assertEqual(said("let n = 0\nwhile (n < 2)\n  set n = (n + 1)\n  while yes\n    leave\n  say n"), ["1", "2"])
        self.assertEqual(said("while yes\n  while yes\n    leave\n  leave\nsay 3"), ["3"])

    def test_statements_behind_blocks_within_blocks(self):
        self.assertEqual(said("if yes\n  if yes\n    if yes\n      say 1\n    say 2\nsay 3"), ["1", "2", "3"])


class Making(unittest.TestCase):
    def test_def(self):
        self.assertEqual(said("def f()\n  give 1\nsay f\nsay call f()"), ["<function>", "1"])
        self.assertEqual(said("def f()\n  give 1\nlet g = f\ndef f()\n  give 2\nsay (f == g)\nsay call g()\nsay call f()"),
                         ["no", "1", "2"])
        self.assertEqual(said("def f()\n  def g()\n    give 1\ncall f()\nlet n = 0\ntry\n  call g()\ncatch n\nsay n"),
                         ["unset"])

    def test_a_def_makes_a_new_function_each_time(self):
        rows = ["let l = []", "while (len(l) < 2)", "  def f()", "  add l, f", "say (l[0] == l[1])"]
        self.assertEqual(said(lines(*rows)), ["no"])

    def test_class(self):
        self.assertEqual(said("class k\nsay k\nlet o = call k()\nsay o"), ["<class>", "<object>"])
        for other in ("none", "yes", "1", "'a'", "[]", "f", "o"):
            self.assertEqual(fails(f"def f()\nclass j\nlet o = call j()\nclass k over {other}"), "kind")
        self.assertEqual(fails("class k over k"), "unset")

    def test_a_class_over_its_own_name(self):
        rows = ["class k", "  def m(self)", "    give 1", "class k over k", "  def n(self)", "    give 2", "let o = call k()",
                "say call o.m()", "say call o.n()"]
        self.assertEqual(said(lines(*rows)), ["1", "2"])

    def test_methods_see_the_scope_of_the_class(self):
        rows = ["def f(n)", "  class k", "    def get(self)", "      give n", "    def to(self, x)", "      set n = x",
                "  give k", "let a = call f(1)", "let b = call f(2)", "let o = call a()", "let u = call b()",
                "call o.to(5)", "say call o.get()", "say call u.get()"]
        self.assertEqual(said(lines(*rows)), ["5", "2"])

    def test_methods_do_not_see_one_another(self):
        rows = ["class k", "  def m(self)", "    give 1", "  def n(self)", "    give m", "let o = call k()", "call o.n()"]
        self.assertEqual(fails(lines(*rows)), "unset")


class Calls(unittest.TestCase):
    def test_how(self):
        rows = ["def f(x)", "  give [x]", "let a = call f(1)", "say a", "set a = call f(2)", "say a", "call f(3)",
                "say call f(4)", "def g()", "  give call f(5)", "  say 'behind'", "say call g()"]
        self.assertEqual(said(lines(*rows)), ["[1]", "[2]", "[4]", "[5]"])

    def test_none_behind_the_last_statement(self):
        self.assertEqual(said("def f()\n  say 1\nsay call f()"), ["1", "none"])
        self.assertEqual(said("def f()\nsay call f()"), ["none"])
        self.assertEqual(said("def f()\n  if yes\n    while no\nlet a = call f()\nsay a"), ["none"])

    def test_set_with_a_result(self):
        self.assertEqual(run("def f()\n  say 1\nset a = call f()"), [("say", "1"), ("failed", "unset")])
        self.assertEqual(run("def f()\nset a = call f()"), [("failed", "unset")])
        self.assertEqual(run("class k\nset a = call k()"), [("failed", "unset")])
        self.assertEqual(said("def f()\n  give 1\ntry\n  set a = call f()\ncatch e\n  say e"), ["unset"])

    def test_set_with_a_result_looks_behind_the_call(self):
        self.assertEqual(said("def f()\n  set g = call h()\n  give g\ndef h()\n  give 7\nlet g = 1\nsay call f()\nsay g"),
                         ["7", "7"])

    def test_count(self):
        for args in ("", "1, 2"):
            self.assertEqual(fails(f"def f(x)\n  say x\ncall f({args})"), "count")
        self.assertEqual(fails("def f()\ncall f(1)"), "count")
        self.assertEqual(fails("class k\n  def m(self)\nlet o = call k()\ncall o.m(1)"), "count")
        self.assertEqual(fails("class k\n  def m(self)\nlet o = call k()\ncall k.m()"), "count")

    def test_kind(self):
        for other in ("none", "yes", "1", "'a'", "[]", "{}", "o"):
            self.assertEqual(fails(f"class k\nlet o = call k()\ncall {other}()"), "kind")
            self.assertEqual(fails(f"class k\nlet o = call k()\ncall {other}(nobody)"), "unset")
            self.assertEqual(fails(f"class k\nlet o = call k()\ncall {other}(1, 2)"), "kind")

    def test_what_is_worked_out_first(self):
        self.assertEqual(fails("call nobody([][0])"), "unset")
        self.assertEqual(fails("def f()\ncall f([][0])"), "range")
        self.assertEqual(fails("def f()\ncall f([][0], nobody)"), "range")
        self.assertEqual(fails("def f()\ncall f(nobody, [][0])"), "unset")

    def test_bound_functions(self):
        rows = ["class k", "  def m(self, x)", "    put self.x = x", "    give self", "let o = call k()", "let f = o.m",
                "let u = call f(5)", "say (u == o)", "say o.x", "put o.m = 3", "call f(6)", "say o.x", "call k.m(o, 7)", "say o.x"]
        self.assertEqual(said(lines(*rows)), ["yes", "5", "6", "7"])

    def test_make(self):
        rows = ["class k", "  def make(self, x)", "    put self.x = x", "    give 5", "let o = call k(1)", "say o.x", "say o",
                "say call k(2)", "class j over k", "let u = call j(3)", "say u.x"]
        self.assertEqual(said(lines(*rows)), ["1", "<object>", "<object>", "3"])

    def test_make_without_statements(self):
        self.assertEqual(said("class k\n  def make(self)\nlet o = call k()\nsay o"), ["<object>"])
        self.assertEqual(said("class k\n  def make(self)\n  def m(self)\nlet o = call k()\nsay call o.m()"), ["none"])

    def test_make_that_is_called_as_a_method(self):
        rows = ["class k", "  def make(self)", "    give 5", "let o = call k()", "say call o.make()", "say call k.make(1)"]
        self.assertEqual(said(lines(*rows)), ["5", "5"])

    def test_make_above(self):
        rows = ["class k", "  def make(self, x)", "    put self.x = x", "class j over k", "  def make(self)",
                "    say call above make(8)", "let o = call j()", "say o.x"]
        self.assertEqual(said(lines(*rows)), ["none", "8"])

    def test_count_of_classes(self):
        self.assertEqual(fails("class k\ncall k(1)"), "count")
        self.assertEqual(fails("class k\n  def make(self)\ncall k(1)"), "count")
        self.assertEqual(fails("class k\n  def make(self, x)\ncall k()"), "count")
        self.assertEqual(fails("class k\n  def m(self)\ncall k(1)"), "count")

    def test_an_error_in_make(self):
        rows = ["class k", "  def make(self)", "    raise self", "let a = 1", "try", "  let a = call k()", "catch e", "say a",
                "say e"]
        self.assertEqual(said(lines(*rows)), ["1", "<object>"])

    def test_a_field_that_is_called(self):
        rows = ["class k", "  def m(self)", "    give 1", "def f()", "  give 2", "let o = call k()", "put o.m = f",
                "say call o.m()"]
        self.assertEqual(said(lines(*rows)), ["2"])

    def test_the_class_of_the_method_not_of_the_object(self):
        rows = ["class a", "  def m(self)", "    give 'a'", "class b over a", "  def m(self)", "    give call above m()",
                "class c over b", "let o = call c()", "say call o.m()"]
        self.assertEqual(said(lines(*rows)), ["a"])


class Depth(unittest.TestCase):
    def test_twenty_frames(self):
        rows = ["def f(n)", "  if (n < {})", "    give call f((n + 1))", "  give n", "say call f(1)"]
        self.assertEqual(said(lines(*rows).format(19)), ["19"])
        self.assertEqual(fails(lines(*rows).format(20)), "deep")

    def test_an_empty_function_needs_a_frame(self):
        rows = ["def e()", "def f(n)", "  if (n < {})", "    give call f((n + 1))", "  give call e()", "say call f(1)"]
        self.assertEqual(said(lines(*rows).format(18)), ["none"])
        self.assertEqual(fails(lines(*rows).format(19)), "deep")

    def test_what_goes_ahead_of_deep(self):
        rows = ["let w = [0]", "class k", "class j", "  def make(self)", "def f(n)", "  if (n < 19)",
                "    give call f((n + 1))", "  {}", "call f(1)"]
        for row, want in (("call f()", "count"), ("call f(1)", "deep"), ("call 1()", "kind"), ("call f(nobody)", "unset"),
                          ("call j(1)", "count"), ("call j()", "deep"), ("call k(1)", "count")):
            self.assertEqual(fails(lines(*rows).format(row)), want)
        self.assertEqual(said(lines(*rows).format("say call k()")), ["<object>"])

    def test_frames_are_taken_away(self):
        rows = ["let n = 0", "def f()", "  give call g()", "def g()", "  raise 1", "while (n < 30)", "  set n = (n + 1)",
                "  try", "    call f()", "  catch e", "say n"]
        self.assertEqual(said(lines(*rows)), ["30"])

    def test_deep_is_caught(self):
        rows = ["let n = 0", "def f()", "  set n = (n + 1)", "  call f()", "try", "  call f()", "catch e", "say [n, e]"]
        self.assertEqual(said(lines(*rows)), ["[19, 'deep']"])


class Asking(unittest.TestCase):
    def test_answers(self):
        self.assertEqual(run("let a = 1\nask a 'q'\nsay a", [True]), [("ask", "q"), ("say", "yes"), ("ended",)])
        self.assertEqual(run("let a = 1\nask a 'q'\nsay a", [False]), [("ask", "q"), ("say", "no"), ("ended",)])

    def test_unset_comes_with_the_answer(self):
        self.assertEqual(run("ask a 'q'"), [("wait", "q")])
        self.assertEqual(run("ask a 'q'", [True]), [("ask", "q"), ("failed", "unset")])
        self.assertEqual(run("try\n  ask a 'q'\ncatch e\n  say e", [True]), [("ask", "q"), ("say", "unset"), ("ended",)])

    def test_the_nearest_scope(self):
        rows = ["let a = 1", "let b = 1", "def f(b)", "  ask a 'one'", "  ask b 'two'", "  say b", "call f(5)", "say [a, b]"]
        self.assertEqual(said(lines(*rows), [True, False]), ["no", "[yes, 1]"])

    def test_the_last_statement_of_a_function(self):
        rows = ["let a = 1", "def f()", "  ask a 'q'", "say call f()", "say a"]
        self.assertEqual(run(lines(*rows), [True]), [("ask", "q"), ("say", "none"), ("say", "yes"), ("ended",)])

    def test_the_last_statement_of_all(self):
        self.assertEqual(last("let a = 1\nask a 'q'", [True]), ("ended",))


if __name__ == "__main__":
    unittest.main()
