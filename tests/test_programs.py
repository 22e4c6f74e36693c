"""Programs: points [3], [10] and [11]."""

import unittest

from helping import NO, YES, lists_in, name, nested, num, say
from making import made

from everyanswer.errors import NoCode, NoPath, NoProgram
from everyanswer.programs import Program

BLOCK = [
    ("if", YES, [say(1), ("while", NO, [("leave",)])], [say(2)]),
    ("try", [say(3)], "a", [say(4)], [say(5)]),
    ("def", "f", ["x"], [("def", "g", [], [("give", YES)]), ("give", name("g"))]),
    ("class", "k", None, [("m", ["x"], [("def", "h", ["y"], []), say(6)]), ("n", ["x", "y"], [])]),
    ("leave",),
]
PATHS = [(0,), (0, 0, 0), (0, 0, 1), (0, 0, 1, 0, 0), (0, 1, 0), (1,), (1, 0, 0), (1, 1, 0), (1, 2, 0), (2,),
         (2, 0, 0), (2, 0, 0, 0, 0), (2, 0, 1), (3,), (3, 0, 0), (3, 0, 1)]
CODES = [(), (2, 0), (2, 0, 0, 0), (3, 0), (3, 1), (3, 0, 0, 0)]


def good():
    return Program(BLOCK[:4])


def fault(block):
    """The path of the first faulty statement, or None for a program."""
    try:
        Program(block)
    except NoProgram as e:
        return e.path
    return None


def if_around(statement):
    return ("if", YES, [statement], [])


class Faults(unittest.TestCase):
    def test_no_list(self):
        for thing in (None, True, 1, "", "leave", (), (say(),), {}, Program([]), [0] * 13, [None] * 13, [say()] * 13):
            self.assertEqual(fault(thing), ())

    def test_empty(self):
        self.assertIsNone(fault([]))

    def test_first_in_reading_order(self):
        bad = ("say",)
        cases = [
            ([bad], (0,)),
            ([say(), bad, bad], (1,)),
            ([("if", YES, [say(), bad], [bad]), bad], (0, 0, 1)),
            ([("if", YES, [say()], [bad]), bad], (0, 1, 0)),
            ([("if", YES, [], []), bad], (1,)),
            ([("if", 1, [bad], [])], (0,)),
            ([("if", YES, [bad], None)], (0,)),
            ([("while", YES, [("while", YES, [bad])])], (0, 0, 0, 0, 0)),
            ([("try", [], "a", [], [bad])], (0, 2, 0)),
            ([("try", [], "a", [bad], [bad])], (0, 1, 0)),
            ([("try", [say(), bad], None, [], [bad])], (0, 0, 1)),
            ([("def", "f", [], [say(), bad])], (0, 0, 1)),
            ([("class", "k", None, [("m", ["x"], []), ("n", ["x"], [bad])])], (0, 1, 0)),
            ([("class", "k", None, [("m", ["x"], [bad]), ("n", ["x"], None)])], (0,)),
            ([say(), None], (1,)),
            ([[]], (0,)),
        ]
        for block, path in cases:
            self.assertEqual(fault(block), path, block)

    def test_thirteen_in_an_inner_block(self):
        for thing in (say(), None, ("say",)):
            self.assertEqual(fault([("if", YES, [say()] * 12 + [thing], [])]), (0, 0, 12))
            self.assertEqual(fault([say(), ("try", [], "a", [], [say()] * 12 + [thing] * 5)]), (1, 2, 12))
        self.assertIsNone(fault([("if", YES, [say()] * 12, [say()] * 12)]))
        self.assertIsNone(fault([say()] * 12))
        self.assertEqual(fault([("def", "f", [], [say()] * 13), ("say",)]), (0, 0, 12))
        self.assertEqual(fault([("class", "k", None, [("m", ["x"], []), ("n", ["x"], [say()] * 14)])]), (0, 1, 12))

    def test_a_fault_ahead_of_the_thirteenth(self):
        self.assertEqual(fault([("if", YES, [say()] * 4 + [("say",)] + [say()] * 8, [])]), (0, 0, 4))
        self.assertEqual(fault([("if", YES, [say()] * 11 + [if_around(("say",)), say()], [])]), (0, 0, 11, 0, 0))

    def test_eighty_statements(self):
        eleven = ("if", YES, [say()] * 10, [])
        self.assertEqual(len(Program([eleven] * 7 + [say()] * 3)), 80)
        self.assertEqual(fault([eleven] * 7 + [say()] * 4), (10,))
        self.assertEqual(fault([eleven] * 8), (7, 0, 2))
        self.assertEqual(fault([eleven] * 7 + [say()] * 3 + [None, ("say",)]), (10,))
        self.assertEqual(fault([eleven] * 7 + [say()] * 2 + [("say",), say()]), (9,))
        twelve = ("if", YES, [say()] * 11, [])
        self.assertEqual(fault([twelve] * 12), (6, 0, 7))

    def test_depth_of_blocks(self):
        wraps = [if_around, lambda s: ("if", YES, [], [s]), lambda s: ("while", YES, [s]),
                 lambda s: ("try", [s], "a", [], []), lambda s: ("try", [], "a", [s], []),
                 lambda s: ("try", [], None, [], [s]), lambda s: ("def", "f", [], [s]),
                 lambda s: ("class", "k", None, [("m", ["x"], []), ("n", ["x"], [s])])]
        for wrap in wraps:
            self.assertIsNone(fault([nested(7, say(), wrap)]))
            path = self.path_of(nested(7, say(), wrap))
            self.assertEqual(fault([nested(8, say(), wrap)]), path)
            self.assertEqual(fault([nested(9, ("say",), wrap)]), path)

    def path_of(self, statement):
        return Program([statement]).paths()[-1]

    def test_empty_blocks_count_for_the_depth(self):
        for s in (("if", YES, [], []), ("while", YES, []), ("try", [], "a", [], []), ("def", "f", [], []),
                  ("class", "k", None, [("m", ["x"], [])])):
            self.assertIsNone(fault([nested(6, s, if_around)]))
            self.assertEqual(fault([nested(7, s, if_around)]), (0,) + (0, 0) * 7)
        self.assertIsNone(fault([nested(7, ("class", "k", None, []), if_around)]))

    def test_leave(self):
        leave = ("leave",)
        self.assertEqual(fault([leave]), (0,))
        self.assertEqual(fault([if_around(leave)]), (0, 0, 0))
        self.assertIsNone(fault([("while", YES, [leave])]))
        self.assertIsNone(fault([("while", YES, [if_around(("try", [leave], "a", [leave], [leave]))])]))
        self.assertEqual(fault([("while", YES, []), leave]), (1,))
        self.assertEqual(fault([("while", YES, [("def", "f", [], [leave])])]), (0, 0, 0, 0, 0))
        self.assertEqual(fault([("while", YES, [("class", "k", None, [("m", ["x"], [leave])])])]), (0, 0, 0, 0, 0))
        self.assertIsNone(fault([("def", "f", [], [("while", YES, [leave])])]))
        self.assertIsNone(fault([("while", YES, [("def", "f", [], [("while", YES, [leave])]), leave])]))

    def test_give(self):
        for give in (("give", YES), ("call", "give", None, YES, [])):
            self.assertEqual(fault([give]), (0,))
            self.assertEqual(fault([say(), ("while", YES, [if_around(give)])]), (1, 0, 0, 0, 0))
            self.assertIsNone(fault([("def", "f", [], [give])]))
            self.assertIsNone(fault([("def", "f", [], [("while", YES, [if_around(give)])])]))
            self.assertIsNone(fault([("class", "k", None, [("m", ["x"], [give])])]))
            self.assertEqual(fault([("def", "f", [], [give]), give]), (1,))

    def test_above(self):
        above = ("above", "m")
        statements = [("let", "a", above), ("set", "a", above), ("put", above, "a", YES), ("put", YES, "a", above),
                      ("place", above, YES, YES), ("place", YES, above, YES), ("place", YES, YES, above),
                      ("add", above, YES), ("add", YES, above), ("cut", above), ("say", above),
                      ("call", "drop", None, above, []), ("call", "say", None, YES, [YES, above]),
                      ("if", above, [], []), ("while", above, []), ("raise", above), ("class", "c", above, []),
                      ("say", ("op", "+", YES, above)), ("say", ("op", "+", above, YES)), ("say", ("not", above)),
                      ("say", ("list", [YES, above])), ("say", ("table", [(YES, YES), (above, YES)])),
                      ("say", ("table", [(YES, above)])), ("say", ("get", above, "a")), ("say", ("at", above, YES)),
                      ("say", ("at", YES, ("len", ("kind", above))))]
        for s in statements:
            self.assertEqual(fault([s]), (0,), s)
            self.assertEqual(fault([("def", "f", ["x"], [s])]), (0, 0, 0), s)
            self.assertIsNone(fault([("class", "k", None, [("m", ["x"], [s])])]), s)
            self.assertIsNone(fault([("class", "k", None, [("m", ["x"], [("while", YES, [s])])])]), s)
            self.assertEqual(fault([("class", "k", None, [("m", ["x"], [("def", "f", ["x"], [s])])])]),
                             (0, 0, 0, 0, 0), s)
        inner = ("class", "c", None, [("m", ["x"], [("say", above)])])
        self.assertIsNone(fault([("class", "k", None, [("m", ["x"], [("def", "f", [], [inner])])])]))
        self.assertEqual(fault([("def", "f", [], [("give", above)])]), (0, 0, 0))

    def test_phrases_and_names_that_look_like_above(self):
        self.assertIsNone(fault([("say", ("text", "above")), ("say", ("list", [("text", "above")]))]))
        self.assertIsNone(fault([("ask", "a", "above")]))

    def test_the_same_fault_wherever_the_limit_is(self):
        """A statement with several faults is one fault; a faulty one hides those within it."""
        self.assertEqual(fault([nested(8, ("leave",), if_around)]), (0,) + (0, 0) * 7)
        self.assertEqual(fault([("give", 1), ("leave",)]), (0,))


class Asking(unittest.TestCase):
    def test_paths(self):
        self.assertEqual(good().paths(), PATHS)
        self.assertEqual(len(good()), len(PATHS))
        self.assertEqual(Program([]).paths(), [])
        self.assertEqual(len(Program([])), 0)

    def test_codes(self):
        self.assertEqual(good().codes(), CODES)
        self.assertEqual(Program([]).codes(), [()])

    def test_codes_of_classes_within_one_another(self):
        inner = ("class", "c", None, [("m", ["x"], []), ("n", ["x"], [])])
        program = Program([("class", "k", None, [("m", ["x"], [inner]), ("n", ["x"], [("def", "f", [], [])])]), inner])
        self.assertEqual(program.codes(), [(), (0, 0), (0, 1), (0, 0, 0, 0), (0, 0, 0, 1), (0, 1, 0, 0), (1, 0),
                                           (1, 1)])

    def test_statements(self):
        program = good()
        self.assertEqual(program[(0,)], BLOCK[0])
        self.assertEqual(program[0, 0, 1, 0, 0], ("leave",))
        self.assertEqual(program[(0, 1, 0)], say(2))
        self.assertEqual(program[(1, 2, 0)], say(5))
        self.assertEqual(program[(2, 0, 0, 0, 0)], ("give", YES))
        self.assertEqual(program[(3, 0, 0)], ("def", "h", ["y"], []))
        for path in PATHS:
            self.assertIsInstance(program[path], tuple)

    def test_no_path(self):
        program = good()
        others = [(), None, True, 0, "0", [0], [], {}, (4,), (-1,), (0, 0), (0, 2, 0), (0, 0, 2), (True,), (False,),
                  (0, False, 0), (0, 0, True), ("0",), (None,), ([0],), ((0,),), (0, 0, 0, 0, 0), (10 ** 30,), {0: 0},
                  (program,), program, (3, 1, 0), (2, 1, 0), ({},), (0.0,)]
        for path in others:
            with self.assertRaises(NoPath):
                program[path]
        with self.assertRaises(NoPath):
            Program([])[(0,)]

    def test_bodies(self):
        program = good()
        self.assertEqual(program.body(()), BLOCK[:4])
        self.assertEqual(program.body((2, 0)), BLOCK[2][3])
        self.assertEqual(program.body((2, 0, 0, 0)), [("give", YES)])
        self.assertEqual(program.body((3, 0)), BLOCK[3][3][0][2])
        self.assertEqual(program.body((3, 1)), [])
        self.assertEqual(Program([]).body(()), [])

    def test_no_code(self):
        program = good()
        for code in (None, True, 0, "", [], [2, 0], {}, (0,), (2,), (0, 0), (1, 0), (2, 1), (3, 2), (2, False), (3, True),
                     (2, None), ([2], 0), (program,), program, (2, 0, 1, 0), (2, 0, 0), ("2", "0"), ((2, 0),), ({}, 0)):
            with self.assertRaises(NoCode):
                program.body(code)

    def test_equality(self):
        self.assertTrue(good() == good())
        self.assertFalse(good() != good())
        self.assertTrue(Program([]) == Program([]))
        self.assertFalse(Program([]) == Program([say()]))
        self.assertFalse(Program([say(1)]) == Program([say(2)]))
        self.assertFalse(Program([("say", num(1))]) == Program([("say", YES)]))
        self.assertTrue(Program([say(1)]) != Program([say(2)]))
        for other in (None, True, [], [say()], BLOCK, "", (), 0, {}):
            self.assertFalse(Program([say()]) == other)
            self.assertTrue(Program([say()]) != other)
        self.assertFalse(Program([]) == [])

    def test_equality_is_a_flag(self):
        self.assertIs(Program([]) == Program([]), True)
        self.assertIs(Program([]) == None, False)  # noqa: E711

    def test_methods_stand_in_the_class_itself(self):
        for word in ("block", "__getitem__", "paths", "__len__", "codes", "body", "__eq__", "__init__"):
            self.assertIn(word, Program.__dict__)
        self.assertEqual(Program.__module__, "everyanswer.programs")


class Copies(unittest.TestCase):
    """Point [3]."""

    def shared(self):
        items = [YES]
        e = ("list", items)
        body = [("say", e)]
        params = ["x"]
        method = ("m", params, body)
        return [("if", e, body, body), ("while", NO, body), ("try", body, "a", body, body), ("def", "f", params, body),
                ("class", "k", e, [method, ("n", params, body)]),
                ("call", "drop", None, e, [e, ("table", [(e, e)])])]

    def test_lists_handed_in_at_several_places(self):
        block = self.shared()
        program = Program(block)
        self.assertEqual(program.block(), block)
        values = [program.block()] + [program[path] for path in program.paths()]
        values += [program.body(code) for code in program.codes()]
        values += [program.paths(), program.codes()]
        for value in values:
            found = [id(one) for one in lists_in(value)]
            self.assertEqual(len(found), len(set(found)))

    def test_what_is_handed_in_is_copied(self):
        block = self.shared()
        program = Program(block)
        before = program.block()
        for one in lists_in(block):
            one.clear()
        self.assertEqual(program.block(), before)
        self.assertEqual(len(program), 15)

    def test_what_is_handed_in_stays(self):
        block = self.shared()
        Program(block)
        self.assertEqual(block, self.shared())
        self.assertIs(block[0][2], block[1][2])
        bad = self.shared() + [("say",)]
        with self.assertRaises(NoProgram):
            Program(bad)
        self.assertEqual(bad, self.shared() + [("say",)])

    def test_what_is_returned_is_new_each_time(self):
        program = Program(self.shared())
        asks = [program.block, program.paths, program.codes, lambda: program[(0,)], lambda: program[(4,)],
                lambda: program.body(()), lambda: program.body((3, 0)), lambda: program[(5,)]]
        for ask in asks:
            first = ask()
            for one in lists_in(first):
                one.clear()
            second = ask()
            self.assertNotEqual(first, second)
            self.assertEqual(second, ask())
        self.assertEqual(program, Program(self.shared()))

    def test_random_programs(self):
        for seed in range(30):
            program = made(seed)
            again = Program(program.block())
            self.assertEqual(again, program)
            self.assertEqual([again[path] for path in again.paths()], [program[path] for path in program.paths()])
            self.assertEqual(len(program.paths()), len(program))
            self.assertEqual(program.paths(), sorted(program.paths()))


if __name__ == "__main__":
    unittest.main()
