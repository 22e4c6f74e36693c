"""What a name, a phrase, an expression and a statement is: points [7] to [9]."""

import unittest

from helping import NO, NONE, YES, name, num, say, text

from everyanswer.errors import NoProgram
from everyanswer.programs import Program

WORDS = ("let set put add cut say ask if else while leave give raise try catch last def class over call none yes no "
         "and or not len kind above at").split()
GOOD_NAMES = ["a", "z", "abcdefgh", "make", "drop", "place", "get", "list", "table", "number", "text", "name", "op",
              "lets", "truth", "self"]
BAD_NAMES = WORDS + ["", "abcdefghi", "A", "a1", "a b", "a_b", " a", "a\n", "\u00e9", "\u0430", None, True, 1, ("a",),
                     ["a"], {"a": 1}, ("name", "a")]
GOOD_PHRASES = ["", " ", "a", "0", "abc 012 xyz", "a" * 20, " " * 20, "let", "yes"]
BAD_PHRASES = ["a" * 21, "A", "a-b", "a'b", "a\n", "a\tb", "\u00e9", "\u0663", "\u00b2", None, True, 1, [], ("a",), {}]
NO_EXPRESSIONS = [None, True, 1, "none", "a", [], (), ("none", None), ("none", 1), ("yes", 1), ("no", ()), ["none"],
                  ("nothing",), (None,), (1,), (True,), (("none",),), ([],), ({},), ("",), "yes", {"none": 1},
                  ("number",), ("number", 1, 1), ("text",), ("name",), ("name", "a", "b"), ("op",), ("let", "a", YES),
                  ("leave",)]


def fine(statement):
    """Whether a statement may stand in a top block."""
    try:
        Program([statement])
    except NoProgram as e:
        assert e.path == (0,), e.path
        return False
    return True


def is_expression(e):
    """Whether an expression may stand in a statement, told by several kinds of statements at once."""
    found = [fine(("say", e)), fine(("let", "a", e)), fine(("place", YES, e, YES)), fine(("if", e, [], [])),
             fine(("call", "drop", None, YES, [YES, e])), fine(("raise", e)), fine(("call", "say", None, e, []))]
    if e is not None:
        found.append(fine(("class", "a", e, [])))
    assert len(set(found)) == 1, (e, found)
    return found[0]


class Names(unittest.TestCase):
    def test_wherever_a_name_stands(self):
        places = [
            lambda n: ("let", n, YES), lambda n: ("set", n, YES), lambda n: ("put", YES, n, YES),
            lambda n: ("ask", n, ""), lambda n: ("call", "let", n, YES, []), lambda n: ("call", "set", n, YES, []),
            lambda n: ("def", n, [], []), lambda n: ("def", "a", [n], []), lambda n: ("def", "a", ["x", "y", n], []),
            lambda n: ("class", n, None, []), lambda n: ("class", "a", None, [(n, ["x"], [])]),
            lambda n: ("class", "a", None, [("b", [n], [])]), lambda n: ("say", ("name", n)),
            lambda n: ("say", ("get", YES, n)),
            lambda n: ("class", "a", None, [("b", ["x"], [("say", ("above", n))])]),
        ]
        for place in places:
            for good in GOOD_NAMES:
                self.assertEqual(Program([place(good)]).block(), [place(good)])
            for bad in BAD_NAMES:
                with self.assertRaises(NoProgram):
                    Program([place(bad)])

    def test_name_of_a_caught_error(self):
        for good in GOOD_NAMES:
            self.assertTrue(fine(("try", [], good, [], [])))
        for bad in BAD_NAMES:
            self.assertFalse(fine(("try", [], bad, [], [])), bad)

    def test_phrases(self):
        for good in GOOD_PHRASES:
            self.assertTrue(fine(("ask", "a", good)))
            self.assertTrue(fine(("say", text(good))))
        for bad in BAD_PHRASES:
            self.assertFalse(fine(("ask", "a", bad)), bad)
            self.assertFalse(fine(("say", text(bad))), bad)


class Expressions(unittest.TestCase):
    def test_good_ones(self):
        for e in (NONE, YES, NO, num(0), num(999), text("a 1"), name("a"), ("not", YES), ("len", YES), ("kind", YES),
                  ("list", []), ("list", [YES] * 4), ("table", []), ("table", [(YES, NO)] * 4), ("get", YES, "a"),
                  ("at", YES, NO)):
            self.assertTrue(is_expression(e), e)
        for word in ("+", "-", "*", "<", "==", "and", "or"):
            self.assertTrue(is_expression(("op", word, YES, num(1))))

    def test_bad_ones(self):
        for e in NO_EXPRESSIONS:
            if e is not None:
                self.assertFalse(is_expression(e), e)
        self.assertFalse(fine(("say", None)))

    def test_numbers(self):
        for n in (-1, 1000, 10 ** 30, True, False, None, "1", 1.0, (1,), [1]):
            self.assertFalse(is_expression(("number", n)), n)

    def test_words_of_op(self):
        for word in ("/", ">", "<=", "!=", "not", "", None, True, 0, [], ("+",), {}, "+ "):
            self.assertFalse(is_expression(("op", word, YES, YES)), word)
        self.assertFalse(is_expression(("op", "+", YES)))
        self.assertFalse(is_expression(("op", "+", YES, YES, YES)))

    def test_every_part_is_looked_at(self):
        for bad in NO_EXPRESSIONS:
            for e in (("op", "+", bad, YES), ("op", "or", YES, bad), ("not", bad), ("len", bad), ("kind", bad),
                      ("list", [YES, bad]), ("table", [(bad, YES)]), ("table", [(YES, YES), (YES, bad)]),
                      ("get", bad, "a"), ("at", bad, YES), ("at", YES, bad)):
                self.assertFalse(fine(("say", e)), e)

    def test_lists_and_tables(self):
        for items in ([YES] * 5, (), (YES,), None, True, 1, "", {}, [[YES]], [YES, None]):
            self.assertFalse(is_expression(("list", items)), items)
        for rows in ([(YES, YES)] * 5, (), None, True, {}, [YES], [[YES, YES]], [(YES,)], [(YES, YES, YES)], [()],
                     [None], ["ab"]):
            self.assertFalse(is_expression(("table", rows)), rows)

    def test_too_many_or_too_few_parts(self):
        for e in (("not",), ("not", YES, YES), ("len",), ("kind", YES, YES), ("list",), ("list", [], []), ("table",),
                  ("get", YES), ("get", YES, "a", "b"), ("at", YES), ("at", YES, YES, YES), ("above",)):
            self.assertFalse(is_expression(e), e)

    def test_depth(self):
        wraps = [lambda e: ("not", e), lambda e: ("op", "+", e, YES), lambda e: ("op", "+", YES, e),
                 lambda e: ("list", [e]), lambda e: ("list", [YES, YES, YES, e]), lambda e: ("table", [(e, YES)]),
                 lambda e: ("table", [(YES, YES), (YES, e)]), lambda e: ("get", e, "a"), lambda e: ("at", e, YES),
                 lambda e: ("at", YES, e), lambda e: ("len", e), lambda e: ("kind", e)]
        for wrap in wraps:
            for innermost in (YES, ("list", []), ("table", []), num(1), name("a")):
                e = innermost
                for depth in range(1, 8):
                    self.assertEqual(is_expression(e), depth <= 5, (depth, e))
                    e = wrap(e)

    def test_every_expression_of_a_statement_is_a_whole_one(self):
        deep = ("not", ("not", ("not", ("not", YES))))
        deeper = ("not", deep)
        for make in (lambda e: ("put", e, "a", e), lambda e: ("place", e, e, e), lambda e: ("add", e, e),
                     lambda e: ("call", "drop", None, e, [e, e, e]), lambda e: ("while", e, []),
                     lambda e: ("class", "a", e, [])):
            self.assertTrue(fine(make(deep)))
            self.assertFalse(fine(make(deeper)))

    def test_deep_things(self):
        thing = ()
        for _ in range(49):
            thing = [thing]
        self.assertFalse(fine(("say", thing)))
        self.assertFalse(fine(thing))
        thing = YES
        for _ in range(48):
            thing = ("not", thing)
        self.assertFalse(fine(("say", thing)))


class Statements(unittest.TestCase):
    def test_good_ones(self):
        good = [("let", "a", YES), ("set", "a", YES), ("put", YES, "a", NO), ("place", YES, NO, NONE),
                ("add", YES, NO), ("cut", YES), ("say", YES), ("ask", "a", "b"), ("if", YES, [], []),
                ("if", YES, [say()], [say()]), ("while", YES, []), ("while", YES, [("leave",)]), ("raise", YES),
                ("try", [], "a", [], []), ("try", [], "a", [say()], [say()]), ("try", [], None, [], [say()]),
                ("def", "a", [], []), ("def", "a", ["x", "y", "z"], [say()]), ("def", "a", ["a"], []),
                ("class", "a", None, []), ("class", "a", YES, []),
                ("class", "a", None, [(n, ["x", "y", "z"], []) for n in ("b", "c", "d", "e")]),
                ("call", "let", "a", YES, []), ("call", "set", "a", YES, [NO]), ("call", "drop", None, YES, [NO] * 3),
                ("call", "say", None, YES, [])]
        for statement in good:
            self.assertEqual(Program([statement]).block(), [statement])

    def test_no_statements(self):
        for thing in (None, True, 1, "leave", "say", [], (), ["leave"], ("leave", None), ("say",), ("say", YES, YES),
                      ("let", "a"), ("let", "a", YES, YES), ("nothing",), (None,), (1, 2), (("say", YES),), ("",),
                      ([],), {}, ("place", YES, YES), ("put", YES, "a"), ("add", YES), ("cut",), ("ask", "a"),
                      ("if", YES, []), ("if", YES), ("if", YES, [], [], []), ("while", YES), ("raise",),
                      ("try", [], "a", []), ("try", [], "a", [], [], []), ("def", "a", []), ("class", "a", None),
                      ("class", "a", []), ("call", "drop", None, YES), ("call", "drop", YES, []), YES, num(1),
                      ("number", 1), ("else",), ("catch", "a"), ("last",), ("method", "a", [], []), Program([])):
            self.assertFalse(fine(thing), thing)

    def test_calls(self):
        for how in ("let", "set"):
            self.assertFalse(fine(("call", how, None, YES, [])))
        for how in ("drop", "say"):
            self.assertFalse(fine(("call", how, "a", YES, [])))
            self.assertFalse(fine(("call", how, "", YES, [])))
            self.assertFalse(fine(("call", how, False, YES, [])))
        for how in ("call", "", None, True, 0, [], ("let",), "return"):
            self.assertFalse(fine(("call", how, None, YES, [])))
            self.assertFalse(fine(("call", how, "a", YES, [])))
        for args in ([YES] * 4, (), (YES,), None, {}, [None], [[YES]], "", [YES, 1]):
            self.assertFalse(fine(("call", "drop", None, YES, args)))

    def test_give(self):
        def inside(statement):
            return fine(("def", "f", [], [statement]))
        for e in (YES, num(1)):
            self.assertTrue(inside(("give", e)))
            self.assertTrue(inside(("call", "give", None, e, [])))
        for bad in (("call", "give", "a", YES, []), ("give",), ("give", None), ("give", YES, YES)):
            with self.assertRaises(NoProgram) as caught:
                Program([("def", "f", [], [bad])])
            self.assertEqual(caught.exception.path, (0, 0, 0))

    def test_inner_blocks_are_lists(self):
        for bad in (None, (), (say(),), "", {}, True, 0, Program([])):
            for statement in (("if", YES, bad, []), ("if", YES, [], bad), ("while", YES, bad),
                              ("try", bad, "a", [], []), ("try", [], "a", bad, []), ("try", [], "a", [], bad),
                              ("try", bad, None, [], [say()]), ("try", [], None, bad, [say()]),
                              ("def", "a", [], bad), ("class", "a", None, [("b", ["x"], bad)])):
                self.assertFalse(fine(statement), statement)

    def test_try_without_name(self):
        self.assertFalse(fine(("try", [], None, [], [])))
        self.assertFalse(fine(("try", [say()], None, [], [])))
        self.assertFalse(fine(("try", [], None, [say()], [say()])))
        self.assertFalse(fine(("try", [], None, [say()], [])))
        self.assertFalse(fine(("try", [], False, [], [say()])))

    def test_parameters(self):
        for params in (["x", "x"], ["x", "y", "x"], ["x", "y", "z", "u"], ("x",), (), None, "", "x", {}, [None],
                       [["x"]], ["if"], [True], [()], [{}]):
            self.assertFalse(fine(("def", "a", params, [])), params)
            self.assertFalse(fine(("class", "a", None, [("b", params, [])])), params)
        self.assertFalse(fine(("class", "a", None, [("b", [], [])])))

    def test_methods(self):
        method = ("b", ["x"], [])
        for methods in ([(n, ["x"], []) for n in ("b", "c", "d", "e", "f")], [method, method],
                        [method, ("c", ["x"], []), ("b", ["y"], [say()])], (), (method,), None, {}, [None],
                        [("b", ["x"])], [("b", ["x"], [], [])], [["b", ["x"], []]], [()], ["abc"], [("b", "x", [])],
                        [(None, ["x"], [])], [([], ["x"], [])]):
            self.assertFalse(fine(("class", "a", None, methods)), methods)

    def test_expression_over_a_class(self):
        for bad in ((), [], True, 1, "a", ("none", 1)):
            self.assertFalse(fine(("class", "a", bad, [])), bad)


if __name__ == "__main__":
    unittest.main()
