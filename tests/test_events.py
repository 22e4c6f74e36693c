"""What events returns and raises: points [23], [28] and [5]."""

import unittest

from helping import counted, last, lines, lists_in, run, say, shallow

from everyanswer.errors import NoAnswers, TooMany
from everyanswer.programs import Program
from everyanswer.runs import events
from everyanswer.texts import read

COUNTING = lines("let n = 0", "while (n < {})", "  set n = (n + 1)")


class Rows(unittest.TestCase):
    def test_each_kind_of_end(self):
        self.assertEqual(run(""), [("ended",)])
        self.assertEqual(run("say 1"), [("say", "1"), ("ended",)])
        self.assertEqual(run("say 1\nraise [1]"), [("say", "1"), ("failed", "[1]")])
        self.assertEqual(run("let a = 1\nsay 1\nask a 'a b'\nsay 2"), [("say", "1"), ("wait", "a b")])
        self.assertEqual(run("say 1\nwhile yes"), [("say", "1"), ("ever", [])])

    def test_questions(self):
        rows = lines("let a = no", "while (not a)", "  ask a 'more'", "  say a", "ask a ''")
        self.assertEqual(run(rows, [False, True]), [("ask", "more"), ("say", "no"), ("ask", "more"), ("say", "yes"),
                                                   ("wait", "")])
        self.assertEqual(run(rows, [False, True, False])[-2:], [("ask", ""), ("ended",)])

    def test_answers_that_are_left(self):
        rows = lines("let a = no", "ask a 'q'", "say a")
        self.assertEqual(run(rows, [True] * 60), run(rows, [True]))
        self.assertEqual(run("say 1", [True, False]), [("say", "1"), ("ended",)])
        self.assertEqual(run("raise 1", [True]), [("failed", "1")])
        self.assertEqual(run("while yes", [True]), [("ever", [])])

    def test_the_list_stays(self):
        answers = [True, False, True]
        events(read("let a = 1\nask a 'q'"), answers)
        self.assertEqual(answers, [True, False, True])

    def test_what_is_returned_is_new(self):
        program = read("while yes\n  say 1")
        first = events(program, [])
        for one in lists_in(first):
            one.clear()
        self.assertEqual(events(program, []), [("ever", ["1"])])

    def test_a_program_can_be_run_again(self):
        program = read("let l = []\nadd l, 1\nlet a = 1\nask a 'q'\nadd l, a\nsay l")
        for _ in range(3):
            self.assertEqual(events(program, [True])[-2:], [("say", "[1, yes]"), ("ended",)])

    def test_sixty_answers(self):
        rows = lines("let a = no", "let n = 0", "while (n < 99)", "  ask a 'q'", "  set n = (n + 1)", "  if a", "    say n")
        found = run(rows, [True, False] * 30)
        self.assertEqual([event for event in found if event[0] == "say"], [("say", str(n)) for n in range(1, 60, 2)])
        self.assertEqual(found[-1], ("wait", "q"))


class NoLists(unittest.TestCase):
    def test_no_answers(self):
        for answers in (None, True, 1, "", "yes", (), (True,), {}, [1], [0], [None], ["yes"], [True, 1], [True, None],
                        [[True]], [("yes",)], [True] * 5 + [0], Program([]), [Program([])], [{}]):
            with self.assertRaises(NoAnswers):
                events(Program([]), answers)

    def test_ahead_of_all_else(self):
        program = read(COUNTING.format("(999 * 9)"))
        with self.assertRaises(TooMany):
            events(program, [])
        with self.assertRaises(NoAnswers):
            events(program, [1])
        with self.assertRaises(NoAnswers):
            events(Program([say()]), [True, 2])


class ForEver(unittest.TestCase):
    def test_nothing_said(self):
        self.assertEqual(run("while yes"), [("ever", [])])
        self.assertEqual(run("while yes\n  let a = 1"), [("ever", [])])
        self.assertEqual(run("say 1\nsay 2\nwhile yes\n  if yes"), [("say", "1"), ("say", "2"), ("ever", [])])

    def test_shortest_rows(self):
        self.assertEqual(run("while yes\n  say 1"), [("ever", ["1"])])
        self.assertEqual(run("while yes\n  say 1\n  say 1\n  say 1"), [("ever", ["1"])])
        self.assertEqual(run("while yes\n  say 1\n  say 2\n  say 1\n  say 2"), [("ever", ["1", "2"])])
        self.assertEqual(run("while yes\n  say 1\n  say 2\n  say 1"), [("ever", ["1", "2", "1"])])
        self.assertEqual(run("while yes\n  say 1\n  say 1\n  say 2\n  say 1\n  say 1\n  say 2"), [("ever", ["1", "1", "2"])])

    def test_shortest_list_ahead(self):
        self.assertEqual(run("say 1\nwhile yes\n  say 1"), [("ever", ["1"])])
        self.assertEqual(run("say 1\nsay 1\nsay 1\nwhile yes\n  say 1\n  say 1"), [("ever", ["1"])])
        self.assertEqual(run("say 2\nwhile yes\n  say 1\n  say 2"), [("ever", ["2", "1"])])
        self.assertEqual(run("say 1\nsay 2\nsay 1\nsay 2\nwhile yes\n  say 1\n  say 2"), [("ever", ["1", "2"])])
        self.assertEqual(run("say 3\nsay 2\nwhile yes\n  say 1\n  say 2"), [("say", "3"), ("ever", ["2", "1"])])
        self.assertEqual(run("say 2\nsay 1\nwhile yes\n  say 1\n  say 2"), [("say", "2"), ("say", "1"), ("ever", ["1", "2"])])
        self.assertEqual(run("say 3\nsay 1\nsay 2\nsay 3\nsay 1\nsay 2\nsay 3\nwhile yes\n  say 1\n  say 2\n  say 3"),
                         [("ever", ["3", "1", "2"])])

    def test_words_alone_count(self):
        self.assertEqual(run("say '1'\nwhile yes\n  say 1"), [("ever", ["1"])])

    def test_the_way_into_the_round(self):
        rows = lines("let n = 0", "while yes", "  say n", "  if (n < 5)", "    set n = (n + 1)", "  else", "    set n = 3")
        self.assertEqual(run(rows), [("say", "0"), ("say", "1"), ("say", "2"), ("ever", ["3", "4", "5"])])

    def test_a_long_way_and_a_long_round(self):
        rows = lines("let n = 0", "while yes", "  say n", "  set n = (n + 1)", "  if (n == 600)", "    set n = 100")
        found = run(rows)
        self.assertEqual(found[:-1], [("say", str(n)) for n in range(100)])
        self.assertEqual(found[-1], ("ever", [str(n) for n in range(100, 600)]))

    def test_things_that_cannot_be_come_to_do_not_count(self):
        self.assertEqual(run("let a = 1\nwhile yes\n  let a = [1, {1: 2}]\n  say a"), [("ever", ["[1, {..}]"])])
        rows = lines("class k", "  def make(self)", "    put self.me = self", "while yes", "  let a = call k()", "  let b = a.make",
                     "  say a")
        self.assertEqual(run(rows), [("ever", ["<object>"])])

    def test_things_are_numbered_anew(self):
        rows = lines("let a = [1]", "let b = [1]", "while yes", "  let c = a", "  set a = b", "  set b = c")
        self.assertEqual(run(rows), [("ever", [])])

    def test_what_is_shared_counts(self):
        rows = lines("let a = [1]", "let b = a", "while yes", "  say (a == b)", "  let b = [1]")
        self.assertEqual(run(rows), [("say", "yes"), ("ever", ["no"])])

    def test_a_truth_is_no_number(self):
        self.assertEqual(run("let a = 1\nwhile yes\n  say a\n  let a = yes"), [("say", "1"), ("ever", ["yes"])])
        self.assertEqual(run("let a = 'none'\nwhile yes\n  say [a]\n  let a = none"), [("say", "['none']"), ("ever", ["[none]"])])

    def test_growing_things_do_not_come_again(self):
        for row in ("let a = [a]", "let a = {1: a}", "class a over a", "let n = (n + 1)"):
            with self.assertRaises(TooMany) as caught:
                run(lines("class a", "let n = 0", "while yes", f"  {row}"))
            self.assertEqual(caught.exception.many, 3000)

    def test_in_a_function(self):
        rows = lines("def f(x)", "  while x", "    say x", "let a = yes", "call f(a)")
        self.assertEqual(run(rows), [("ever", ["yes"])])

    def test_calls_within_the_round(self):
        rows = lines("let n = 0", "def f()", "  while (n < 3)", "    set n = (n + 1)", "    say n", "  set n = 0", "while yes",
                     "  call f()")
        self.assertEqual(run(rows), [("ever", ["1", "2", "3"])])

    def test_a_kept_give_does_not_end_it(self):
        rows = lines("def f()", "  try", "    give 1", "  last", "    while yes", "      say 2", "call f()")
        self.assertEqual(run(rows), [("ever", ["2"])])

    def test_what_is_kept_counts(self):
        rows = lines("let n = 0", "while yes", "  try", "    if (n < 2)", "      set n = (n + 1)", "      raise n", "  catch e",
                     "  last", "    say n")
        self.assertEqual(run(rows), [("say", "1"), ("ever", ["2"])])

    def test_behind_a_question(self):
        rows = lines("let a = 1", "say 'x'", "ask a 'q'", "say 'x'", "while a", "  say 'x'", "say 'y'")
        self.assertEqual(run(rows, [True]), [("say", "x"), ("ask", "q"), ("ever", ["x"])])
        self.assertEqual(run(rows, [False])[-2:], [("say", "y"), ("ended",)])

    def test_words_said_with_an_answer(self):
        rows = lines("let a = 1", "def f()", "  ask a 'q'", "say call f()", "while yes", "  say none")
        self.assertEqual(run(rows, [True]), [("ask", "q"), ("ever", ["none"])])
        rows = lines("let a = 1", "def f()", "  ask a 'q'", "say call f()", "while yes", "  say 1")
        self.assertEqual(run(rows, [True]), [("ask", "q"), ("say", "none"), ("ever", ["1"])])

    def test_a_round_with_a_question_is_none(self):
        rows = lines("let a = 1", "while yes", "  ask a 'q'")
        self.assertEqual(run(rows, [True, True]), [("ask", "q"), ("ask", "q"), ("wait", "q")])
        rows = lines("let a = 1", "while yes", "  if (a == 1)", "    set a = 2", "  else", "    set a = 1", "    ask b 'q'",
                     "    set a = 1")
        rows = "let b = 1\n" + rows
        self.assertEqual(run(rows, [True] * 5), [("ask", "q")] * 5 + [("wait", "q")])


class Three(unittest.TestCase):
    """Three thousand statements."""

    def test_the_last_one_that_is_begun(self):
        rows = counted(1498)
        # 1498 rounds begin 2 + 2 * 1498 + 1 = 2999 statements.
        self.assertEqual(last(lines(*rows)), ("ended",))
        self.assertEqual(last(lines(*rows, "say 1")), ("ended",))
        with self.assertRaises(TooMany) as caught:
            run(lines(*rows, "say 1", "say 2"))
        self.assertEqual(caught.exception.many, 3000)

    def test_an_ask_is_not_counted(self):
        rows = counted(1498)
        self.assertEqual(last(lines(*rows, "say 1", "ask n 'q'")), ("wait", "q"))
        with self.assertRaises(TooMany):
            run(lines(*rows, "say 1", "if yes", "  ask n 'q'"))
        self.assertEqual(last(lines(*rows, "if yes", "  ask n 'q'")), ("wait", "q"))

    def test_counted_anew_behind_each_question(self):
        rows = counted(1498) + ["say 1", "ask n 'q'"] + counted(1498) + ["say 1"]
        self.assertEqual(last(lines(*rows), [True]), ("ended",))
        self.assertEqual(last(lines(*rows)), ("wait", "q"))
        self.assertEqual(last(lines(*rows, "ask n 'r'"), [True]), ("wait", "r"))
        with self.assertRaises(TooMany):
            run(lines(*rows, "say 2"), [True])
        self.assertEqual(last(lines(*rows, "say 2"), []), ("wait", "q"))

    def test_an_error_at_the_last_one(self):
        rows = counted(1498)
        self.assertEqual(last(lines(*rows, "raise 1")), ("failed", "1"))
        with self.assertRaises(TooMany):
            run(lines(*rows, "say 1", "raise 1"))

    def test_a_call_counts_once(self):
        rows = ["def f()"] + counted(1497)
        # One for the def, so the calls begin with 2998 statements.
        self.assertEqual(last(lines(*rows, "call f()", "call f()")), ("ended",))
        with self.assertRaises(TooMany):
            run(lines(*rows, "call f()", "call f()", "call f()"))

    def test_a_round_that_closes_with_the_last_one(self):
        rows = ["let n = 0", "while yes", "  set n = (n + 1)", "  if (n == 999)", "    set n = 0"]
        # The while is come to with n = 0 behind 1, and again behind 3 * 999 + 1 more statements.
        self.assertEqual(last(lines(*rows)), ("ever", []))
        self.assertEqual(last(lines("let a = 0", *rows)), ("ever", []))
        with self.assertRaises(TooMany):
            run(lines("let a = 0", "let b = 0", *rows))
        self.assertEqual(last(lines("let b = 0", "ask b 'q'", "let a = 0", *rows), [True]), ("ever", []))

    def test_only_a_while_closes_a_round(self):
        rows = ["let a = 0", "let n = 0", "while yes", "  let a = 1", "  set n = (n + 1)", "  if (n == 748)", "    set n = 0"]
        # A round has 4 * 748 + 1 statements. The second statement in the block comes first into the round, behind 4
        # statements, and the while behind 6; so the while comes again two statements later.
        self.assertEqual(last(lines(*["let b = 0"] * 1, *rows)), ("ever", []))
        for many in (2, 3):
            with self.assertRaises(TooMany):
                run(lines(*["let b = 0"] * many, *rows))

    def test_runs_are_not_led_further_than_needed(self):
        self.assertEqual(last(lines("let a = 0", "ask a 'q'", "let n = 0", "while yes", "  set n = (n + 1)")), ("wait", "q"))
        with self.assertRaises(TooMany):
            run(lines("let a = 0", "ask a 'q'", "let n = 0", "while yes", "  set n = (n + 1)"), [False])

    def test_no_deep_recursion(self):
        frames = ["def f(n)", "  try", "    if (n < 18)", "      give call f((n + 1))", "    raise n", "  last", "    let n = [n]",
                  "try", "  call f(0)", "catch n"]
        chains = ["let l = []", "class k", "let i = 0", "while {}", "  set l = [l]", "  class k over k", "  set i = (i + 1)"]
        ahead = lines(*frames, "if yes", *["  " + row for row in chains])
        for more, want in ("  say 1", ("ended",)), ("  raise k.m", ("failed", "field")), ("  ask l 'q'", ("wait", "q")):
            self.assertEqual(shallow(run, lines(ahead, more).format("(i < 700)"))[-1], want)
        with self.assertRaises(TooMany):
            shallow(run, ahead.format("yes"))


if __name__ == "__main__":
    unittest.main()
