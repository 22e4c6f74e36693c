"""What holds for the statements of a program: points [30] to [32], and what [29] says of them."""

import unittest

from helping import TURNS, at, counted, lines, lists_in, many_of

from everyanswer.errors import NoName, NoPath
from everyanswer.graphs import graph
from everyanswer.programs import Program
from everyanswer.questions import always, avoids_fault, ever, values
from everyanswer.texts import read

ENDLESS = ["let n = 0", "while yes", "  set n = (n + 1)"]
NO_PATHS = (None, 0, True, "", (), [0], [], (9,), (-1,), (True,), (False,), (0, 0), (0, 0, 0), ("0",), ((0,),), (None,), {}, Program([]))


class Ever(unittest.TestCase):
    def check(self, rows, path, want):
        program = read(lines(*rows))
        self.assertEqual(ever(program, path), want)

    def test_ahead_of_the_first_question(self):
        rows = ["let a = 1", "if a", "ask a 'q'", "say a"]
        self.check(rows, (0,), ("answers", []))
        self.check(rows, (1,), ("answers", []))
        # The first error arises in the if, which has been begun all the same.
        self.check(rows, (2,), ("never", 1))
        self.check(rows, (3,), ("never", 1))

    def test_an_ask_is_begun_when_its_phrase_is_asked(self):
        rows = ["let a = 1", "ask a 'q'", "ask a 'r'", "say a"]
        self.check(rows, (1,), ("answers", []))
        self.check(rows, (2,), ("answers", [False]))
        self.check(rows, (3,), ("answers", [False, False]))

    def test_the_first_shortest_row(self):
        rows = ["let a = 1", "let b = 1", "ask a 'q'", "ask b 'r'", "if (a == b)", "  say 1", "else", "  say 2", "if (b and (not a))", "  say 3",
                "if (a and (not b))", "  say 4", "if (a and b)", "  say 5"]
        self.check(rows, (4, 0, 0), ("answers", [False, False]))
        self.check(rows, (4, 1, 0), ("answers", [False, True]))
        self.check(rows, (5, 0, 0), ("answers", [False, True]))
        self.check(rows, (6, 0, 0), ("answers", [True, False]))
        self.check(rows, (7, 0, 0), ("answers", [True, True]))

    def test_a_shorter_row_goes_ahead_of_a_lesser_one(self):
        rows = ["let a = 1", "ask a 'q'", "if (not a)", "  ask a 'r'", "say 1"]
        self.check(rows, (3,), ("answers", [True]))
        rows = ["let a = 1", "let n = 0", "while (n < 3)", "  ask a 'q'", "  set n = (n + 1)", "  if a", "    leave", "say n"]
        self.check(rows, (3,), ("answers", [True]))
        self.check(rows, (2, 0, 2, 0, 0), ("answers", [True]))
        rows = ["let a = 1", "let n = 0", "while (n < 4)", "  ask a 'q'", "  if a", "    set n = (n + 2)", "  set n = (n + 1)", "  say n",
                "  if (n == 4)", "    say 'four'"]
        self.check(rows, (2, 0, 4, 0, 0), ("answers", [False, True]))

    def test_never(self):
        rows = ["let a = 1", "ask a 'q'", "if (a == 1)", "  say 1", "ask a 'r'"]
        # Two moments at questions, whatever the first answer was, and the end.
        self.check(rows, (2, 0, 0), ("never", 4))
        self.check(["if no", "  say 1"], (0, 0, 0), ("never", 1))
        self.check(["raise 1", "say 2"], (1,), ("never", 1))
        self.check(["while yes", "say 2"], (1,), ("never", 1))
        self.check(["def f()", "  say 1"], (0, 0, 0), ("never", 1))
        self.check(["class k", "  def m(x)", "    say 1"], (0, 0, 0), ("never", 1))

    def test_the_number_of_moments(self):
        for rows in (["let a = 1", "ask a 'q'", "say a", "ask a 'r'", "if (a == 7)", "  say 1"], [*TURNS.format(5).split("\n"), "say 7"]):
            program = read(lines(*rows))
            self.assertEqual(ever(program, program.paths()[-1]), ("never", len(graph(at(lines(*rows))))))

    def test_statements_of_functions_and_methods(self):
        rows = ["def f(x)", "  ask x 'q'", "  if x", "    give call f(1)", "class k", "  def a(x)", "  def m(x)", "    say x", "    call f(x)",
                "let o = call k()", "call o.m()"]
        self.check(rows, (0, 0, 0), ("answers", []))
        self.check(rows, (0, 0, 1), ("answers", [False]))
        self.check(rows, (0, 0, 1, 0, 0), ("answers", [True]))
        self.check(rows, (1, 1, 0), ("answers", []))
        self.check(rows, (1, 1, 1), ("answers", []))

    def test_tries(self):
        rows = ["let a = 1", "try", "  ask a 'q'", "  if a", "    raise a", "catch e", "  say 'caught'", "last", "  say 'last'"]
        self.check(rows, (1, 0, 1, 0, 0), ("answers", [True]))
        self.check(rows, (1, 1, 0), ("answers", [True]))
        self.check(rows, (1, 2, 0), ("answers", [False]))

    def test_begun_whether_an_error_arises_or_not(self):
        self.check(["let a = 1", "ask a 'q'", "say nobody"], (2,), ("answers", [False]))
        self.check(["ask a 'q'", "say 1"], (0,), ("answers", []))
        self.check(["ask a 'q'", "say 1"], (1,), ("never", 2))

    def test_in_a_run_that_goes_on_for_ever(self):
        rows = ["let a = 1", "ask a 'q'", "let n = 0", "while a", "  set n = (n + 1)", "  if (n == 700)", "    say n", "  if (n == 701)", "    set n = 0"]
        self.check(rows, (3, 0, 1, 0, 0), ("answers", [True]))
        self.check(rows, (3, 0, 2, 0, 0), ("answers", [True]))
        rows = ["let a = 1", "ask a 'q'", "while a", "say a"]
        self.check(rows, (3,), ("answers", [False]))

    def test_behind_many_answers(self):
        rows = ["let a = 1", "let n = 0", "while (n < 150)", "  ask a 'q'", "  if a", "    set n = (n + 1)", "  let a = 1", "say n"]
        self.check(rows, (3,), ("answers", [True] * 150))

    def test_a_row_that_is_returned_is_new(self):
        program = read(lines("let a = 1", "ask a 'q'", "say a"))
        ever(program, (2,))[1].append(1)
        self.assertEqual(ever(program, (2,)), ("answers", [False]))
        ever(program, (0,))[1].append(1)
        self.assertEqual(ever(program, (0,)), ("answers", []))


class Always(unittest.TestCase):
    def always(self, rows, path):
        """What always returns; what it returns as avoided is judged."""
        program = read(lines(*rows))
        found = always(program, path)
        if found[0] == "avoids":
            self.assertIsNone(avoids_fault(program, path, found))
            self.assertLessEqual(len(found[1]) + len(found[2]), len(graph(at(lines(*rows)))))
        return found

    def test_numbers(self):
        rows = ["let a = 1", "ask a 'q'", "say a", "ask a 'r'", "say 2"]
        self.assertEqual([self.always(rows, (k,)) for k in range(5)], [("always", n) for n in (0, 0, 1, 1, 2)])

    def test_without_questions(self):
        rows = ["say 1", "if yes", "  raise 2", "say 3"]
        self.assertEqual(self.always(rows, (0,)), ("always", 0))
        self.assertEqual(self.always(rows, (1, 0, 0)), ("always", 0))
        self.assertEqual(self.always(rows, (2,)), ("avoids", [], []))
        self.assertEqual(self.always(["while yes", "  say 1", "say 2"], (0, 0, 0)), ("always", 0))
        self.assertEqual(self.always(["while yes", "  say 1", "say 2"], (1,)), ("avoids", [], []))

    def test_the_latest_counts(self):
        rows = ["let a = 1", "let n = 0", "while (n < 3)", "  ask a 'q'", "  set n = (n + 1)", "  if a", "    leave", "say n"]
        self.assertEqual(self.always(rows, (3,)), ("always", 3))
        rows = ["let a = 1", "ask a 'q'", "if a", "  ask a 'r'", "  ask a 's'", "say 1"]
        self.assertEqual(self.always(rows, (3,)), ("always", 3))
        rows = ["let a = 1", "ask a 'q'", "if (not a)", "  ask a 'r'", "  ask a 's'", "say 1"]
        self.assertEqual(self.always(rows, (3,)), ("always", 3))

    def test_begun_by_the_way_to_an_end(self):
        rows = ["let a = 1", "ask a 'q'", "if a", "  call f()", "say 1", "raise 2"]
        self.assertEqual(self.always(rows, (3,)), ("avoids", [True], []))
        rows = ["let a = 1", "def f()", "  say 1", "ask a 'q'", "if a", "  call f()", "  raise 1", "call f()"]
        self.assertEqual(self.always(rows, (1, 0, 0)), ("always", 1))
        rows = ["let a = 1", "ask a 'q'", "while a", "  say 1", "  call f()"]
        self.assertEqual(self.always(rows, (2, 0, 0)), ("avoids", [False], []))

    def test_begun_in_a_run_that_goes_on_for_ever(self):
        rows = ["let a = 1", "def f()", "  say 1", "ask a 'q'", "while a", "  call f()", "call f()"]
        self.assertEqual(self.always(rows, (1, 0, 0)), ("always", 1))
        rows = ["let a = 1", "ask a 'q'", "while a", "say 1"]
        self.assertEqual(self.always(rows, (3,)), ("avoids", [True], []))

    def test_avoided_by_each_kind_of_end(self):
        for row in ("raise 1", "while yes", "let b = c"):
            self.assertEqual(self.always(["let a = 1", "ask a 'q'", "if a", f"  {row}", "say 1"], (3,)), ("avoids", [True], []))
        self.assertEqual(self.always(["let a = 1", "ask a 'q'", "if a", "  say 1"], (2, 0, 0)), ("avoids", [False], []))

    def test_avoided_without_end(self):
        rows = ["let a = no", "while (not a)", "  ask a 'q'", "say 1"]
        self.assertEqual(self.always(rows, (2,)), ("avoids", [], [False]))
        rows = ["let a = yes", "while a", "  ask a 'q'", "say 1"]
        self.assertEqual(self.always(rows, (2,)), ("avoids", [], [True]))

    def test_avoided_behind_a_row(self):
        rows = ["let a = no", "ask a 'p'", "let b = a", "while (a == b)", "  ask a 'q'", "say 1"]
        word, row, turn = self.always(rows, (4,))
        self.assertEqual((word, len(row), turn), ("avoids", 1, row))

    def test_avoided_by_a_turn_of_several(self):
        rows = ["let a = no", "let n = 0", "while yes", "  ask a 'q'", "  if (a == (n == 1))", "    leave", "  set n = (n + 1)",
                "  if (n == 3)", "    set n = 0", "  let a = no", "say 1"]
        self.assertEqual(self.always(rows, (3,)), ("avoids", [], [True, False, True]))
        rows = ["let a = no", "ask a 'p'", "let a = no"] + rows
        self.assertEqual(self.always(rows, (6,))[2], [True, False, True])
        self.assertEqual(len(self.always(rows, (6,))[1]), 1)

    def test_the_statement_of_a_loop(self):
        rows = ["let a = no", "while yes", "  ask a 'q'", "  if a", "    say 1"]
        self.assertEqual(self.always(rows, (1, 0, 1)), ("always", 1))
        self.assertEqual(self.always(rows, (1, 0, 0)), ("always", 0))
        self.assertEqual(self.always(rows, (1, 0, 1, 0, 0)), ("avoids", [], [False]))

    def test_an_answer_that_begins_it_hides_what_is_behind(self):
        # Only the runs that never begin the statement count, also where both come to the same moment.
        rows = ["let a = no", "let n = 0", "while (n < 2)", "  ask a 'q'", "  if a", "    say 1", "  set n = (n + 1)", "  let a = no"]
        self.assertEqual(self.always(rows, (2, 0, 1, 0, 0)), ("avoids", [False, False], []))
        rows = ["let a = no", "while yes", "  ask a 'q'", "  if (not a)", "    say 1", "    while yes", "      ask a 'r'", "  say 1", "  leave"]
        self.assertEqual(self.always(rows, (1, 0, 1, 0, 0)), ("avoids", [True], []))
        rows[8] = "  let a = no"
        self.assertEqual(self.always(rows, (1, 0, 1, 0, 0)), ("avoids", [], [True]))

    def test_many_moments(self):
        rows = ["let a = 1", "let n = 0", "while (n < 199)", "  ask a 'q'", "  set n = (n + 1)", "  let a = 1", "say n"]
        self.assertEqual(self.always(rows, (3,)), ("always", 199))
        self.assertEqual(self.always([*rows, "if no", "  say 1"], (4, 0, 0)), ("avoids", [False] * 199, []))
        self.assertEqual(self.always([*TURNS.format(200).split("\n"), "say 1"], (3,)), ("avoids", [], [False] * 200))


class AvoidsFault(unittest.TestCase):
    LOOP = read(lines("let a = no", "say 0", "while (not a)", "  ask a 'q'", "say 1", "ask a 'r'", "if a", "  say 2"))

    def test_the_form(self):
        for thing in (None, "avoids", (), ("avoids",), ("avoids", []), ("avoids", [], [], []), ["avoids", [], []], ("Avoids", [], []),
                      ("always", [], []), ("avoids", (), []), ("avoids", [], ()), ("avoids", None, []), ("avoids", [], None),
                      ("avoids", [1], []), ("avoids", [], [0]), ("avoids", [True, None], []), ("avoids", [True], [[False]]), ({}, [], []),
                      (["avoids"], [], []), (self.LOOP, [], []), ("avoids", [], self.LOOP), 0, True, {}, ("always", 1)):
            self.assertEqual(avoids_fault(self.LOOP, (3,), thing), ("form",), thing)

    def test_none(self):
        self.assertIsNone(avoids_fault(self.LOOP, (3,), ("avoids", [], [False])))
        self.assertIsNone(avoids_fault(self.LOOP, (3,), ("avoids", [False, False], [False])))
        self.assertIsNone(avoids_fault(self.LOOP, (3,), ("avoids", [False], [False, False])))
        self.assertIsNone(avoids_fault(self.LOOP, (5, 0, 0), ("avoids", [True, False], [])))
        self.assertIsNone(avoids_fault(self.LOOP, (5, 0, 0), ("avoids", [False, True, False], [])))
        self.assertIsNone(avoids_fault(read("say 1\nif no\n  say 2"), (1, 0, 0), ("avoids", [], [])))

    def test_ended(self):
        for row, turn, want in (([True, False, False], [], 2), ([True, False, True, True], [True], 2), ([True, False], [True], 2),
                                ([True, False], [False, True], 2), ([True], [False], 1), ([], [True, True], 0), ([], [True], 0),
                                ([], [False, True], 1), ([], [True, False, True], 2), ([True], [True, False], 2),
                                ([False], [False, True, True], 1), ([False, True], [False, True, True], 3)):
            self.assertEqual(avoids_fault(self.LOOP, (3,), ("avoids", row, turn)), ("ended", want), (row, turn))
        self.assertEqual(avoids_fault(read("say 1"), (0,), ("avoids", [], [True])), ("ended", 0))
        self.assertEqual(avoids_fault(read("say 1"), (0,), ("avoids", [True], [])), ("ended", 0))

    def test_ended_in_a_later_round(self):
        # The seventh answer is the last one; turns of three and of four come to its end in the third and second round.
        rows = ["let a = 1", "let n = 0", "while (n < 7)", "  ask a 'q'", "  set n = (n + 1)", "  let a = 1"]
        program = read(lines(*rows))
        for row, turn, want in (([], [True] * 3, 1), ([], [True] * 4, 3), ([True], [True] * 3, 1), ([True] * 2, [False] * 3, 4),
                                ([True] * 7, [True], 7), ([True] * 6, [True] * 9, 7), ([], [True] * 7, 0), ([], [True] * 8, 7)):
            self.assertEqual(avoids_fault(program, (0,), ("avoids", row, turn)), ("ended", want), (row, turn))

    def test_ended_by_each_kind_of_end(self):
        for row in ("raise 1", "while yes", "let a = 1"):
            program = read(lines("let a = 1", "ask a 'q'", row))
            self.assertEqual(avoids_fault(program, (2,), ("avoids", [True], [True])), ("ended", 1))
            self.assertEqual(avoids_fault(program, (2,), ("avoids", [True, True], [])), ("ended", 1))

    def test_open(self):
        self.assertEqual(avoids_fault(self.LOOP, (3,), ("avoids", [], [])), ("open",))
        self.assertEqual(avoids_fault(self.LOOP, (3,), ("avoids", [False], [])), ("open",))
        self.assertEqual(avoids_fault(self.LOOP, (3,), ("avoids", [True], [])), ("open",))

    def test_begun(self):
        self.assertEqual(avoids_fault(self.LOOP, (1,), ("avoids", [], [False])), ("begun",))
        self.assertEqual(avoids_fault(self.LOOP, (3,), ("avoids", [True, True], [])), ("begun",))
        self.assertEqual(avoids_fault(self.LOOP, (5, 0, 0), ("avoids", [False, True, True], [])), ("begun",))
        self.assertEqual(avoids_fault(read("say 1"), (0,), ("avoids", [], [])), ("begun",))

    def test_begun_in_a_later_round(self):
        rows = ["let a = 1", "let n = 0", "while yes", "  ask a 'q'", "  let a = 1", "  set n = (n + 1)", "  if (n == 7)", "    set n = 0",
                "  if (n == 3)", "    say 1"]
        program = read(lines(*rows))
        for turn in ([True], [True, True], [False] * 5, [True] * 7):
            self.assertEqual(avoids_fault(program, (2, 0, 4, 0, 0), ("avoids", [], turn)), ("begun",), turn)
        rows = ["let a = 1", "let n = 0", "while yes", "  ask a 'q'", "  set n = (n + 1)", "  if (a and (n == 6))", "    say 1", "  let a = 1", "  if (n == 7)",
                "    set n = 0"]
        program = read(lines(*rows))
        self.assertEqual(avoids_fault(program, (2, 0, 2, 0, 0), ("avoids", [], [False] * 5 + [True])), ("begun",))
        self.assertEqual(avoids_fault(program, (2, 0, 2, 0, 0), ("avoids", [], [False] * 5 + [True, False])), ("begun",))
        self.assertEqual(avoids_fault(program, (2, 0, 2, 0, 0), ("avoids", [], [False] * 4 + [True])), ("begun",))
        self.assertEqual(avoids_fault(program, (2, 0, 2, 0, 0), ("avoids", [True] * 5, [False] * 6 + [True])), None)
        self.assertEqual(avoids_fault(program, (2, 0, 2, 0, 0), ("avoids", [True] * 6, [False])), ("begun",))

    def test_the_order_of_the_faults(self):
        # Begun and ended; begun and open.
        self.assertEqual(avoids_fault(self.LOOP, (1,), ("avoids", [True, True, True], [])), ("ended", 2))
        self.assertEqual(avoids_fault(self.LOOP, (3,), ("avoids", [True], [])), ("open",))
        self.assertEqual(avoids_fault(self.LOOP, (3,), ("avoids", [True], [True])), ("ended", 1))
        self.assertEqual(avoids_fault(self.LOOP, (1,), ("avoids", [], [])), ("open",))

    def test_sixty_answers(self):
        self.assertIsNone(avoids_fault(self.LOOP, (3,), ("avoids", [False] * 60, [False] * 60)))
        self.assertEqual(avoids_fault(self.LOOP, (3,), ("avoids", [False] * 59 + [True], [True] * 2)), ("ended", 61))


class Values(unittest.TestCase):
    def values(self, rows, path, name):
        return values(read(lines(*rows)), path, name)

    def test_ascending_each_once(self):
        rows = ["let a = 1", "let n = 8", "while (n < 12)", "  ask a 'q'", "  set n = (n + 1)", "say n"]
        self.assertEqual(self.values(rows, (2, 0, 0), "n"), ["10", "11", "8", "9"])
        self.assertEqual(self.values(rows, (2,), "n"), ["10", "11", "12", "8", "9"])
        self.assertEqual(self.values(rows, (3,), "n"), ["12"])
        self.assertEqual(self.values(rows, (2, 0, 1), "a"), ["no", "yes"])

    def test_ahead_of_what_the_statement_does(self):
        rows = ["let a = 1", "set a = 2", "ask a 'q'", "ask a 'r'", "let a = 3", "say a"]
        self.assertEqual([self.values(rows, (k,), "a") for k in range(6)], [[], ["1"], ["2"], ["no", "yes"], ["no", "yes"], ["3"]])

    def test_an_ask_once_and_not_with_the_answer(self):
        rows = ["let a = 1", "def f()", "  let b = 2", "  ask b 'q'", "call f()"]
        self.assertEqual(self.values(rows, (1, 0, 1), "b"), ["2"])
        self.assertEqual(self.values(rows, (2,), "a"), ["1"])

    def test_a_call_once_and_not_with_the_result(self):
        rows = ["let a = 1", "let b = 1", "def f()", "  set b = 2", "  ask b 'q'", "  give 3", "set b = call f()", "say b"]
        self.assertEqual(self.values(rows, (3,), "b"), ["1"])
        self.assertEqual(self.values(rows, (4,), "b"), ["3"])

    def test_a_while_each_time(self):
        rows = ["let n = 0", "while (n < 3)", "  set n = (n + 1)"]
        self.assertEqual(self.values(rows, (1,), "n"), ["0", "1", "2", "3"])
        self.assertEqual(self.values(rows, (1, 0, 0), "n"), ["0", "1", "2"])

    def test_unset(self):
        rows = ["let a = 1", "ask a 'q'", "if a", "  let b = 2", "say 1"]
        self.assertEqual(self.values(rows, (3,), "b"), ["2"])
        self.assertEqual(self.values(rows, (1,), "b"), [])
        self.assertEqual(self.values(rows, (3,), "zz"), [])
        self.assertEqual(self.values(["let a = none", "say a"], (1,), "a"), ["none"])

    def test_statements_that_are_never_begun(self):
        self.assertEqual(self.values(["let a = 1", "if no", "  say a"], (1, 0, 0), "a"), [])

    def test_from_the_frame(self):
        rows = ["let a = 1", "let b = 5", "def f(a)", "  say a", "  let b = a", "  say b", "call f(2)", "call f(3)", "say a"]
        self.assertEqual(self.values(rows, (2, 0, 0), "a"), ["2", "3"])
        self.assertEqual(self.values(rows, (2, 0, 0), "b"), ["5"])
        self.assertEqual(self.values(rows, (2, 0, 2), "b"), ["2", "3"])
        self.assertEqual(self.values(rows, (5,), "a"), ["1"])

    def test_words_of_each_kind(self):
        rows = ["let l = [none, yes, 1, 'a']", "add l, []", "add l, {}", "class k", "def f()", "add l, k", "add l, f", "let o = call k()",
                "add l, o", "let i = 0", "while (i < len(l))", "  let x = l[i]", "  say x", "  set i = (i + 1)"]
        rows = ["if yes"] + ["  " + row for row in rows]
        self.assertEqual(self.values(rows, (0, 0, 10, 0, 1), "x"),
                         sorted(["none", "yes", "1", "a", "[]", "{}", "<class>", "<function>", "<object>"]))
        self.assertEqual(self.values(rows, (0, 0, 10, 0, 1), "l"), ["[none, yes, 1, 'a', [], {}, <class>, <function>, <object>]"])

    def test_unlike_values_with_the_same_words(self):
        rows = ["let a = 1", "ask a 'q'", "if a", "  let b = 'none'", "else", "  let b = none", "say b"]
        self.assertEqual(self.values(rows, (3,), "b"), ["none"])

    def test_in_a_run_that_goes_on_for_ever(self):
        rows = ["let n = 0", "while yes", "  say n", "  set n = (n + 1)", "  if (n == 4)", "    set n = 1"]
        self.assertEqual(self.values(rows, (1, 0, 0), "n"), ["0", "1", "2", "3"])
        self.assertEqual(self.values(rows, (1,), "n"), ["0", "1", "2", "3"])
        rows = ["let n = 0", "while yes", "  set n = (n + 1)", "  if (n == 640)", "    set n = 600"]
        self.assertEqual(len(self.values(rows, (1,), "n")), 640)

    def test_what_is_returned_is_new(self):
        program = read("let a = 1\nsay a")
        values(program, (1,), "a").append("2")
        self.assertEqual(values(program, (1,), "a"), ["1"])


class Wrong(unittest.TestCase):
    FUNCTIONS = {
        "ever": lambda program, path: ever(program, path),
        "always": lambda program, path: always(program, path),
        "avoids_fault": lambda program, path: avoids_fault(program, path, ("avoids", [], [])),
        "values": lambda program, path: values(program, path, "a"),
    }

    def test_no_path(self):
        for program in (read("say 1"), read(lines(*ENDLESS)), read("let a = 1\nask a 'q'"), read(TURNS.format(201))):
            for word, function in self.FUNCTIONS.items():
                for path in NO_PATHS:
                    with self.assertRaises(NoPath, msg=(word, path)):
                        function(program, path)
        for word, function in self.FUNCTIONS.items():
            self.assertRaises(NoPath, function, read(""), (0,))
            self.assertRaises(NoPath, function, read("while yes\n  say 1"), (0, 1, 0))

    def test_no_path_ahead_of_the_rest(self):
        program = read("say 1")
        self.assertRaises(NoPath, avoids_fault, program, (1,), None)
        self.assertRaises(NoPath, values, program, (1,), "A")
        self.assertRaises(NoPath, values, program, (1,), None)

    def test_no_name(self):
        for program in (read("say 1"), read(lines(*ENDLESS)), read(TURNS.format(201))):
            for thing in (None, 1, True, "", "A", "let", "abcdefghi", "a b", ["a"], ("a",), (0,), program):
                self.assertRaises(NoName, values, program, (0,), thing)

    def test_the_form_ahead_of_too_many(self):
        for program in (read(lines(*ENDLESS)), read(TURNS.format(201))):
            self.assertEqual(avoids_fault(program, (0,), None), ("form",))
            self.assertEqual(avoids_fault(program, (0,), ("avoids", [1], [])), ("form",))

    def test_too_many_whatever_is_asked(self):
        for word, function in self.FUNCTIONS.items():
            self.assertEqual(many_of(function, read(lines(*ENDLESS)), (0,)), 3000, word)
            self.assertEqual(many_of(function, read(TURNS.format(201)), (0,)), 200, word)
            self.assertIsNone(many_of(function, read(TURNS.format(200)), (0,)), word)
            rows = read(lines("let a = 1", "ask a 'q'", "if a", *["  " + row for row in ENDLESS]))
            self.assertEqual(many_of(function, rows, (0,)), 3000, word)
            self.assertEqual(many_of(function, rows, (1,)), 3000, word)

    def test_too_many_in_the_order_of_the_graph(self):
        rows = ["let n = 0", "let a = 1", "while (n < {})", "  ask a 'q'", "  set n = (n + 1)", "  let a = 1", "let n = 0", "while yes", "  set n = (n + 1)"]
        for word, function in self.FUNCTIONS.items():
            self.assertEqual(many_of(function, read(lines(*rows).format(200)), (0,)), 3000, word)
            self.assertEqual(many_of(function, read(lines(*rows).format(201)), (0,)), 200, word)

    def test_exactly_three_thousand(self):
        for word, function in self.FUNCTIONS.items():
            self.assertIsNone(many_of(function, read(lines(*counted(1498), "say 1")), (0,)), word)
            self.assertEqual(many_of(function, read(lines(*counted(1498), "say 1", "say 1")), (0,)), 3000, word)

    def test_what_is_returned(self):
        program = read("let a = no\nwhile (not a)\n  ask a 'q'\nsay 1")
        self.assertIs(type(ever(program, (2,))), tuple)
        found = always(program, (2,))
        self.assertIs(type(found), tuple)
        self.assertEqual([type(part) for part in found], [str, list, list])
        every = lists_in(found)
        self.assertEqual(len({id(one) for one in every}), 2)
        for one in every:
            one.append(True)
        self.assertEqual(always(program, (2,)), ("avoids", [], [False]))
        thing = ("avoids", [False], [False, False])
        avoids_fault(program, (2,), thing)
        self.assertEqual(thing, ("avoids", [False], [False, False]))


if __name__ == "__main__":
    unittest.main()
