"""Values, scopes, expressions and words: points [14] to [18] and [22]."""

import unittest

from helping import fails, fault, lines, run, said, worth

CLASS = lines("class k", "  def m(self)", "    give 'm of k'", "  def n(self)", "    give 'n of k'",
              "class j over k", "  def m(self)", "    give 'm of j'", "let o = call j()")
TWELVE = lines("let d = {}", "let n = 0", "while (n < 12)", "  put d[n] = n", "  set n = (n + 1)")
LIST = lines("let l = []", "let n = 0", "while (n < 12)", "  add l, n", "  set n = (n + 1)")
# A function that says and gives what it is called with would be no expression; this one shows what is worked out.
BAD = "nobody"


class Plain(unittest.TestCase):
    def test_themselves(self):
        for e, want in (("none", "none"), ("yes", "yes"), ("no", "no"), ("0", "0"), ("999", "999"), ("'a b'", "a b"),
                        ("''", "")):
            self.assertEqual(worth(e), want)

    def test_names(self):
        self.assertEqual(worth("a", "let a = 1"), "1")
        self.assertEqual(fault("a"), "unset")
        self.assertEqual(fault("b", "let a = 1"), "unset")


class Numbers(unittest.TestCase):
    def test_signs(self):
        self.assertEqual(worth("(2 + 3)"), "5")
        self.assertEqual(worth("(2 - 3)"), "-1")
        self.assertEqual(worth("(2 * 3)"), "6")
        self.assertEqual(worth("((0 - 2) * 3)"), "-6")
        self.assertEqual(worth("(2 < 3)"), "yes")
        self.assertEqual(worth("(3 < 3)"), "no")
        self.assertEqual(worth("(3 < 2)"), "no")

    def test_great(self):
        million = "let a = ((100 * 100) * 100)"
        self.assertEqual(worth("(a * 1000)".replace("1000", "(10 * 100)"), million), "1000000000")
        self.assertEqual(fault("((a * (10 * 100)) + 1)", million), "great")
        self.assertEqual(worth("((a * (10 * 100)) - 1)", million), "999999999")
        self.assertEqual(worth("(0 - (a * (10 * 100)))", million), "-1000000000")
        self.assertEqual(fault("((0 - (a * (10 * 100))) - 1)", million), "great")
        self.assertEqual(fault("(a * a)", million), "great")
        self.assertEqual(fault("(a * (0 - a))", million), "great")

    def test_kind(self):
        for sign in ("+", "-", "*", "<"):
            for other in ("none", "yes", "'a'", "[]", "{}"):
                self.assertEqual(fault(f"(1 {sign} {other})"), "kind")
                self.assertEqual(fault(f"({other} {sign} 1)"), "kind")
            self.assertEqual(fault(f"(yes {sign} no)"), "kind")
            self.assertEqual(fault(f"(none {sign} none)"), "kind")
            self.assertEqual(fault(f"([] {sign} [])"), "kind")


class Texts(unittest.TestCase):
    def test_signs(self):
        self.assertEqual(worth("('ab' + 'c')"), "abc")
        self.assertEqual(worth("('' + '')"), "")
        self.assertEqual(worth("('a' < 'b')"), "yes")
        self.assertEqual(worth("('b' < 'a')"), "no")
        self.assertEqual(worth("('a' < 'ab')"), "yes")
        self.assertEqual(worth("('10' < '9')"), "yes")
        self.assertEqual(worth("(' ' < '0')"), "yes")
        self.assertEqual(worth("('9' < 'a')"), "yes")
        self.assertEqual(fault("('a' - 'a')"), "kind")
        self.assertEqual(fault("('a' * 'a')"), "kind")
        self.assertEqual(fault("('a' * 2)"), "kind")

    def test_great(self):
        twenty = "let a = '" + "x" * 20 + "'"
        self.assertEqual(worth("((a + a) + a)", twenty), "x" * 60)
        self.assertEqual(fault("(((a + a) + a) + 'x')", twenty), "great")
        self.assertEqual(worth("(((a + a) + a) + '')", twenty), "x" * 60)


class Sameness(unittest.TestCase):
    def test_plain(self):
        for one, other in (("none", "none"), ("yes", "yes"), ("no", "no"), ("3", "3"), ("(1 + 2)", "3"), ("'a'", "'a'"),
                           ("('a' + 'b')", "'ab'"), ("(1 < 2)", "yes")):
            self.assertEqual(worth(f"({one} == {other})"), "yes")
        for one, other in (("none", "no"), ("yes", "no"), ("1", "2"), ("'a'", "'b'"), ("1", "'1'"), ("'yes'", "yes"),
                           ("none", "'none'"), ("0", "none"), ("''", "none")):
            self.assertEqual(worth(f"({one} == {other})"), "no")
            self.assertEqual(worth(f"({other} == {one})"), "no")

    def test_a_truth_is_no_number(self):
        self.assertEqual(worth("(1 == yes)"), "no")
        self.assertEqual(worth("(yes == 1)"), "no")
        self.assertEqual(worth("(0 == no)"), "no")
        self.assertEqual(fault("(yes < 2)"), "kind")

    def test_things(self):
        self.assertEqual(worth("([] == [])"), "no")
        self.assertEqual(worth("({} == {})"), "no")
        self.assertEqual(worth("(a == a)", "let a = []"), "yes")
        self.assertEqual(worth("(a == b)", "let a = []", "let b = a"), "yes")
        self.assertEqual(worth("(a == b)", "let a = [1]", "let b = [1]"), "no")
        self.assertEqual(worth("(a == 1)", "let a = []"), "no")
        self.assertEqual(worth("(a == none)", "let a = []"), "no")
        self.assertEqual(worth("(o.m == o.m)", CLASS), "no")
        self.assertEqual(worth("(j.m == j.m)", CLASS), "yes")
        self.assertEqual(worth("(j.n == k.n)", CLASS), "yes")
        self.assertEqual(worth("(j.m == k.m)", CLASS), "no")
        self.assertEqual(worth("(o == o)", CLASS), "yes")
        self.assertEqual(worth("(k == j)", CLASS), "no")
        self.assertEqual(worth("(f == f)", "def f()"), "yes")
        self.assertEqual(worth("(f == g)", "def f()", "def g()"), "no")

    def test_things_are_shared(self):
        self.assertEqual(said("let a = [1]\nlet b = a\nadd b, 2\nsay a"), ["[1, 2]"])
        self.assertEqual(said("let a = {}\nlet b = [a]\nput b[0][1] = 2\nsay a"), ["{1: 2}"])
        self.assertEqual(said("let a = 1\nlet b = a\nset b = 2\nsay a"), ["1"])


class Truths(unittest.TestCase):
    def test_tables(self):
        for one in ("yes", "no"):
            for other in ("yes", "no"):
                both = "yes" if one == other == "yes" else "no"
                either = "no" if one == other == "no" else "yes"
                self.assertEqual(worth(f"({one} and {other})"), both)
                self.assertEqual(worth(f"({one} or {other})"), either)
        self.assertEqual(worth("(not yes)"), "no")
        self.assertEqual(worth("(not no)"), "yes")

    def test_what_is_not_worked_out(self):
        self.assertEqual(worth(f"(no and {BAD})"), "no")
        self.assertEqual(worth(f"(yes or {BAD})"), "yes")
        self.assertEqual(worth("(no and 1)"), "no")
        self.assertEqual(worth("(yes or 1)"), "yes")
        self.assertEqual(fault(f"(yes and {BAD})"), "unset")
        self.assertEqual(fault(f"(no or {BAD})"), "unset")

    def test_kind(self):
        for other in ("1", "0", "none", "'yes'", "[]"):
            self.assertEqual(fault(f"({other} and {BAD})"), "kind")
            self.assertEqual(fault(f"({other} or {BAD})"), "kind")
            self.assertEqual(fault(f"(yes and {other})"), "kind")
            self.assertEqual(fault(f"(no or {other})"), "kind")
            self.assertEqual(fault(f"(not {other})"), "kind")
        self.assertEqual(fault(f"(not {BAD})"), "unset")


class ListsAndTables(unittest.TestCase):
    def test_new_ones(self):
        self.assertEqual(worth("[1, 'a', none]"), "[1, 'a', none]")
        self.assertEqual(worth("{'a': 1, 2: [], none: {}, no: yes}"), "{'a': 1, 2: [], none: {}, no: yes}")
        self.assertEqual(said("let n = 0\nlet a = [0, 0]\nwhile (n < 2)\n  put a[n] = []\n  set n = (n + 1)\n"
                              "add a[0], 1\nsay a"), ["[[..], []]"])

    def test_rows_with_the_same_key(self):
        self.assertEqual(worth("{1: 1, 2: 2, 1: 3}"), "{1: 3, 2: 2}")
        self.assertEqual(worth("{1: 'a', yes: 'b', '1': 'c'}"), "{1: 'a', yes: 'b', '1': 'c'}")
        self.assertEqual(worth("{0: 'a', no: 'b', none: 'c', '': 'd'}"), "{0: 'a', no: 'b', none: 'c', '': 'd'}")
        self.assertEqual(worth("{yes: 'a', 1: 'b'}[1]"), "b")
        self.assertEqual(worth("{yes: 'a', 1: 'b'}[yes]"), "a")

    def test_keys(self):
        for key in ("[]", "{}", "f", "k", "o", "o.m"):
            self.assertEqual(fault("{" + key + ": 1}", CLASS, "def f()"), "kind")

    def test_each_row_is_put_in_ahead_of_the_next_one(self):
        self.assertEqual(fault("{[]: 1, nobody: 1}"), "kind")
        self.assertEqual(fault("{nobody: 1, []: 1}"), "unset")
        self.assertEqual(fault("{[]: nobody}"), "unset")
        self.assertEqual(fault("{1: 1, []: (1 + yes)}"), "kind")
        self.assertEqual(fault("{1: 1, []: nobody, 2: 2}"), "unset")

    def test_len(self):
        self.assertEqual(worth("len([])"), "0")
        self.assertEqual(worth("len([1, [2, 3]])"), "2")
        self.assertEqual(worth("len({})"), "0")
        self.assertEqual(worth("len({1: 2, 1: 3, 2: 2})"), "2")
        self.assertEqual(worth("len('a b')"), "3")
        self.assertEqual(worth("len('')"), "0")
        for other in ("none", "yes", "1", "f", "k", "o", "o.m"):
            self.assertEqual(fault(f"len({other})", CLASS, "def f()"), "kind")

    def test_kind(self):
        for e, want in (("none", "none"), ("yes", "truth"), ("no", "truth"), ("0", "number"), ("''", "text"), ("[]", "list"),
                        ("{}", "table"), ("f", "function"), ("o.m", "function"), ("k.m", "function"), ("k", "class"),
                        ("o", "object")):
            self.assertEqual(worth(f"kind({e})", CLASS, "def f()"), want)
        self.assertEqual(fault("kind(nobody)"), "unset")


class At(unittest.TestCase):
    def test_lists_and_texts(self):
        self.assertEqual(worth("[5, 6, 7][0]"), "5")
        self.assertEqual(worth("[5, 6, 7][2]"), "7")
        self.assertEqual(worth("'abc'[0]"), "a")
        self.assertEqual(worth("'a c'[1]"), " ")
        for one in ("[5, 6, 7]", "'abc'"):
            self.assertEqual(fault(f"{one}[3]"), "range")
            self.assertEqual(fault(f"{one}[(0 - 1)]"), "range")
            for key in ("yes", "no", "none", "'0'", "[]"):
                self.assertEqual(fault(f"{one}[{key}]"), "kind")
        self.assertEqual(fault("[][0]"), "range")
        self.assertEqual(fault("''[0]"), "range")

    def test_tables(self):
        table = "{1: 'one', '1': 'text', yes: 'truth', none: 'none'}"
        for key, want in (("1", "one"), ("'1'", "text"), ("yes", "truth"), ("none", "none")):
            self.assertEqual(worth(f"{table}[{key}]"), want)
        for key in ("0", "no", "''", "2"):
            self.assertEqual(fault(f"{table}[{key}]"), "key")
        for key in ("[]", "{}", "k", "o", "o.m"):
            self.assertEqual(fault(f"{table}[{key}]", CLASS), "kind")
        self.assertEqual(fault("{}[[]]"), "kind")

    def test_others(self):
        for one in ("none", "yes", "1", "f", "k", "o"):
            self.assertEqual(fault(f"{one}[0]", CLASS, "def f()"), "kind")

    def test_parts_go_ahead(self):
        self.assertEqual(fault("1[nobody]"), "unset")
        self.assertEqual(fault("[][nobody]"), "unset")
        self.assertEqual(fault("(1 + nobody)"), "unset")
        self.assertEqual(fault("(nobody + (1 + yes))"), "unset")
        self.assertEqual(fault("((1 + yes) + nobody)"), "kind")
        self.assertEqual(fault("[[][0], nobody]"), "range")
        self.assertEqual(fault("[nobody, [][0]]"), "unset")
        self.assertEqual(fault("{}[1][nobody]"), "key")


class Get(unittest.TestCase):
    def test_fields_go_ahead_of_methods(self):
        self.assertEqual(worth("o.m", CLASS), "<function>")
        self.assertEqual(worth("o.m", CLASS, "put o.m = 5"), "5")
        self.assertEqual(worth("o.x", CLASS, "put o.x = none"), "none")
        self.assertEqual(fault("o.x", CLASS), "field")
        self.assertEqual(fault("o.x.y", CLASS), "field")

    def test_own_methods_go_ahead_of_those_over_them(self):
        self.assertEqual(said(lines(CLASS, "say call o.m()", "say call o.n()")), ["m of j", "n of k"])
        self.assertEqual(said(lines(CLASS, "say call j.m(1)", "say call k.m(1)")), ["m of j", "m of k"])

    def test_of_a_class(self):
        self.assertEqual(worth("k.m", CLASS), "<function>")
        self.assertEqual(worth("j.n", CLASS), "<function>")
        self.assertEqual(fault("k.x", CLASS), "field")

    def test_of_others(self):
        for one in ("none", "yes", "1", "'a'", "[]", "{}", "f", "o.m"):
            self.assertEqual(fault(f"{one}.m", CLASS, "def f()"), "kind")
        self.assertEqual(fault("nobody.m"), "unset")


class Above(unittest.TestCase):
    def test_the_method_over_that_of_the_frame(self):
        rows = ["class a", "  def m(self)", "    give 'a'", "class b over a", "  def m(self)",
                "    let x = call above m()", "    give (x + 'b')", "class c over b", "  def m(self)",
                "    let x = call above m()", "    give (x + 'c')", "class d over c", "let o = call d()", "say call o.m()"]
        self.assertEqual(said(lines(*rows)), ["abc"])

    def test_of_methods_only(self):
        rows = ["class a", "class b over a", "  def m(self)", "    put self.n = 1", "    give above n",
                "let o = call b()", "call o.m()"]
        self.assertEqual(fails(lines(*rows)), "field")

    def test_no_class_over_it(self):
        self.assertEqual(fails("class a\n  def m(x)\n    give above m\nlet o = call a()\ncall o.m()"), "field")

    def test_the_first_parameter_is_looked_up(self):
        rows = ["class a", "  def n(self)", "    give self.x", "class b over a", "  def m(self)", "{}",
                "    give call above n()", "let o = call b()", "put o.x = 1", "let u = call b()", "put u.x = 2"]
        text = lines(*rows, "say call o.m()")
        self.assertEqual(said(text.format("    let y = 1")), ["1"])
        self.assertEqual(said(text.format("    let self = u")), ["2"])
        self.assertEqual(said(text.format("    set self = u")), ["2"])
        self.assertEqual(fails(text.format("    set self = 1")), "kind")
        self.assertEqual(fails(lines(*rows, "call b.m(1)").format("    let y = 1")), "kind")
        self.assertEqual(said(lines(*rows, "say call b.m(u)").format("    let y = 1")), ["2"])

    def test_kind_goes_ahead_of_field(self):
        self.assertEqual(fails("class a\n  def m(x)\n    give above m\ncall a.m(1)"), "kind")

    def test_a_bound_function_of_the_object(self):
        rows = ["class a", "  def m(self, x)", "    give [self.y, x]", "class b over a", "  def m(self, x)", "    give above m",
                "let o = call b()", "put o.y = 7", "let f = call o.m(1)", "say f", "say call f(3)"]
        self.assertEqual(said(lines(*rows)), ["<function>", "[7, 3]"])


class Words(unittest.TestCase):
    def test_plain(self):
        self.assertEqual(worth("(0 - 12)"), "-12")
        self.assertEqual(worth("'none'"), "none")
        self.assertEqual(worth("['none', none, 'yes', yes]"), "['none', none, 'yes', yes]")

    def test_example(self):
        self.assertEqual(worth("[1, 'a b', [none], {}]"), "[1, 'a b', [..], {}]")

    def test_within(self):
        self.assertEqual(worth("[]"), "[]")
        self.assertEqual(worth("{}"), "{}")
        self.assertEqual(worth("[[], [[]], {}, {1: {}}]"), "[[], [..], {}, {..}]")
        self.assertEqual(worth("{'a': [1], 1: 'b', yes: {1: 1}, none: ''}"), "{'a': [..], 1: 'b', yes: {..}, none: ''}")
        self.assertEqual(worth("[f, k, o, o.m]", CLASS, "def f()"), "[<function>, <class>, <object>, <function>]")
        self.assertEqual(worth("{1: f, 2: k, 3: o, 4: o.m}", CLASS, "def f()"),
                         "{1: <function>, 2: <class>, 3: <object>, 4: <function>}")
        self.assertEqual(worth("[(0 - 1)]"), "[-1]")

    def test_things(self):
        for e, want in (("f", "<function>"), ("k", "<class>"), ("o", "<object>"), ("o.m", "<function>")):
            self.assertEqual(worth(e, CLASS, "def f()"), want)

    def test_what_holds_itself(self):
        self.assertEqual(worth("a", "let a = []", "add a, a"), "[[..]]")
        self.assertEqual(worth("a", "let a = {}", "put a[1] = a"), "{1: {..}}")
        self.assertEqual(worth("a", "let a = []", "let b = {1: a}", "add a, b"), "[{..}]")

    def test_twelve(self):
        self.assertEqual(worth("l", LIST), "[" + ", ".join(map(str, range(12))) + "]")
        self.assertEqual(worth("d", TWELVE), "{" + ", ".join(f"{n}: {n}" for n in range(12)) + "}")

    def test_of_the_value_of_an_error(self):
        self.assertEqual(fails("raise ['a', []]"), "['a', []]")
        self.assertEqual(fails("raise 'a'"), "a")
        self.assertEqual(run("raise none"), [("failed", "none")])


if __name__ == "__main__":
    unittest.main()
