"""Errors, gives and leaves on their way out: points [16] and [21]."""

import unittest

from helping import fails, lines, run, said


def tried(*rows):
    """What is said by these lines in a function that is called in a while, and what it gives."""
    inner = ["    " + row for row in rows]
    return said(lines("let n = 0", "def f()", "  while yes", *inner, "    leave", "  say 'behind'", "  give 'given'",
                      "try", "  say call f()", "catch e", "  say ['caught', e]"))


class Catching(unittest.TestCase):
    def test_without_error(self):
        self.assertEqual(said("try\n  say 1\ncatch e\n  say 2\nsay 3"), ["1", "3"])
        self.assertEqual(said("try\n  say 1\nlast\n  say 2\nsay 3"), ["1", "2", "3"])
        self.assertEqual(said("try\n  say 1\ncatch e\n  say 2\nlast\n  say 3\nsay 4"), ["1", "3", "4"])
        self.assertEqual(fails("try\n  say 1\ncatch e\nsay e"), "unset")

    def test_empty_blocks(self):
        self.assertEqual(said("try\ncatch e\nsay 1"), ["1"])
        self.assertEqual(said("try\nlast\n  say 1"), ["1"])
        self.assertEqual(said("try\ncatch e\n  say 1\nlast\n  say 2"), ["2"])
        self.assertEqual(said("try\n  raise 1\ncatch e\nlast\n  say e"), ["1"])
        self.assertEqual(said("try\n  raise 1\ncatch e\nsay e"), ["1"])
        self.assertEqual(said("try\n  if yes\ncatch e\nsay 1"), ["1"])

    def test_what_is_raised(self):
        for value in ("none", "yes", "7", "'a'", "[1]", "{}"):
            self.assertEqual(said(f"try\n  raise {value}\n  say 1\ncatch e\n  say e"), [value.replace("'", "")])
        self.assertEqual(said("let a = []\ntry\n  raise a\ncatch e\nsay (a == e)"), ["yes"])
        self.assertEqual(said("try\n  raise nobody\ncatch e\nsay e"), ["unset"])

    def test_what_arises(self):
        for row, want in (("say a", "unset"), ("say (1 + yes)", "kind"), ("say [][0]", "range"), ("say {}[0]", "key"),
                          ("say k.m", "field"), ("call k(1)", "count"), ("say ((w * w) * w)", "great")):
            self.assertEqual(said(lines("class k", "let w = (100 * 100)", "try", f"  {row}", "catch e", "say e")), [want])

    def test_the_name_is_put_into_the_scope_of_the_frame(self):
        rows = ["let e = 'top'", "def f()", "  try", "    raise 1", "  catch e", "    set e = [e]", "  give e", "say call f()",
                "say e"]
        self.assertEqual(said(lines(*rows)), ["[1]", "top"])

    def test_errors_of_calls(self):
        rows = ["def f(n)", "  if (n < 5)", "    call f((n + 1))", "  raise n", "try", "  call f(0)", "catch e", "  say e"]
        self.assertEqual(said(lines(*rows)), ["5"])

    def test_behind_a_caught_error_the_caller_goes_on(self):
        rows = ["def f()", "  raise 1", "try", "  try", "    call f()", "    say 'no'", "  catch e", "    say e", "  say 2",
                "catch e", "  say 'no'", "say 3"]
        self.assertEqual(said(lines(*rows)), ["1", "2", "3"])

    def test_an_error_in_a_condition_is_outside_of_the_blocks(self):
        self.assertEqual(said("try\n  while nobody\n    leave\ncatch e\n  say e"), ["unset"])
        self.assertEqual(said("try\n  if nobody\ncatch e\n  say e"), ["unset"])

    def test_an_error_of_block_one_or_of_the_last_block_is_not_caught_there(self):
        self.assertEqual(fails("try\n  raise 1\ncatch e\n  raise 2"), "2")
        self.assertEqual(fails("try\n  raise 1\ncatch e\nlast\n  raise 2"), "2")
        self.assertEqual(fails("try\ncatch e\nlast\n  raise 2"), "2")
        self.assertEqual(said("try\n  try\n    raise 1\n  catch e\n    raise 2\ncatch e\n  say e"), ["2"])

    def test_failed(self):
        self.assertEqual(run("say 1\nraise 2\nsay 3"), [("say", "1"), ("failed", "2")])
        self.assertEqual(run("def f()\n  raise 2\ncall f()\nsay 3"), [("failed", "2")])


class LastBlocks(unittest.TestCase):
    def test_behind_an_error_that_is_not_caught(self):
        self.assertEqual(run("try\n  raise 1\nlast\n  say 2\nsay 3"), [("say", "2"), ("failed", "1")])
        self.assertEqual(run("try\n  raise 1\ncatch e\n  raise 2\nlast\n  say 3\nsay 4"), [("say", "3"), ("failed", "2")])

    def test_behind_a_caught_error(self):
        self.assertEqual(said("try\n  raise 1\ncatch e\n  say e\nlast\n  say 2\nsay 3"), ["1", "2", "3"])

    def test_give_and_leave(self):
        self.assertEqual(tried("try", "  give 1", "last", "  say 'last'"), ["last", "1"])
        self.assertEqual(tried("try", "  leave", "last", "  say 'last'", "say 'no'"), ["last", "behind", "given"])
        self.assertEqual(tried("try", "  raise 1", "last", "  say 'last'"), ["last", "['caught', 1]"])
        self.assertEqual(tried("try", "  raise 1", "catch e", "  give e", "last", "  say 'last'"), ["last", "1"])
        self.assertEqual(tried("try", "  raise 1", "catch e", "  leave", "last", "  say 'last'"), ["last", "behind", "given"])

    def test_without_a_last_block(self):
        self.assertEqual(tried("try", "  give 1", "catch e"), ["1"])
        self.assertEqual(tried("try", "  leave", "catch e", "say 'no'"), ["behind", "given"])
        self.assertEqual(tried("try", "  raise 1", "catch e", "  give e"), ["1"])
        self.assertEqual(tried("try", "  raise 1", "catch e", "  leave", "say 'no'"), ["behind", "given"])

    def test_what_goes_out_of_the_last_block_itself(self):
        for first in ("give 1", "leave", "raise 1", "say 'first'"):
            ahead = ["first"] if first == "say 'first'" else []
            self.assertEqual(tried("try", f"  {first}", "last", "  give 2"), ahead + ["2"])
            self.assertEqual(tried("try", f"  {first}", "last", "  leave", "say 'no'"), ahead + ["behind", "given"])
            self.assertEqual(tried("try", f"  {first}", "last", "  raise 2"), ahead + ["['caught', 2]"])
            self.assertEqual(tried("try", f"  {first}", "last", "  say nobody"), ahead + ["['caught', 'unset']"])

    def test_a_leave_within_the_last_block_keeps_what_is_kept(self):
        self.assertEqual(tried("try", "  give 1", "last", "  while yes", "    leave", "  say 'last'"), ["last", "1"])

    def test_a_caught_error_within_the_last_block_keeps_what_is_kept(self):
        self.assertEqual(tried("try", "  give 1", "last", "  try", "    raise 2", "  catch e", "    say e"), ["2", "1"])

    def test_within_one_another(self):
        self.assertEqual(tried("try", "  try", "    give 1", "  last", "    say 'inner'", "last", "  say 'outer'"),
                         ["inner", "outer", "1"])
        self.assertEqual(tried("try", "  try", "    raise 1", "  last", "    say 'inner'", "catch e", "  say e", "last",
                               "  say 'outer'"), ["inner", "1", "outer", "behind", "given"])
        self.assertEqual(tried("try", "  give 1", "last", "  try", "    give 2", "  last", "    say 'inner'", "  say 'no'"),
                         ["inner", "2"])
        self.assertEqual(tried("try", "  give 1", "last", "  try", "    raise 2", "  catch e", "  last", "    say 'inner'",
                               "  say 'outer'"), ["inner", "outer", "1"])
        self.assertEqual(tried("try", "  raise 1", "last", "  try", "    raise 2", "  last", "    say 'inner'",
                               "  say 'no'"), ["inner", "['caught', 2]"])

    def test_in_frames(self):
        rows = ["def f()", "  try", "    give call g()", "  last", "    say 'f'", "def g()", "  try", "    raise 1", "  last",
                "    say 'g'", "try", "  call f()", "catch e", "  say e"]
        self.assertEqual(said(lines(*rows)), ["g", "f", "1"])

    def test_give_with_a_call(self):
        rows = ["def g()", "  say 'g'", "  give 7", "def f()", "  try", "    give call g()", "  last", "    say 'last'",
                "say call f()"]
        self.assertEqual(said(lines(*rows)), ["g", "last", "7"])

    def test_the_value_is_worked_out_ahead_of_the_last_block(self):
        rows = ["def f()", "  let a = 1", "  try", "    give a", "  last", "    set a = 2", "say call f()"]
        self.assertEqual(said(lines(*rows)), ["1"])

    def test_a_question_in_the_last_block(self):
        rows = ["let a = 1", "def f()", "  try", "    give 1", "  last", "    ask a 'q'", "    if a", "      give 2", "say call f()"]
        self.assertEqual(said(lines(*rows), [True]), ["2"])
        self.assertEqual(said(lines(*rows), [False]), ["1"])

    def test_a_leave_out_of_two_last_blocks(self):
        rows = ["while yes", "  try", "    try", "      leave", "    last", "      say 1", "  last", "    say 2", "say 3"]
        self.assertEqual(said(lines(*rows)), ["1", "2", "3"])

    def test_what_is_forgotten_is_not_kept(self):
        for way in ("leave", "raise 1", "give 1"):
            rows = ["let n = 0", "def f()", "  try", "    while yes", "      try", "        say 0", "      last", f"        {way}",
                    "  catch e", "while yes", "  while yes", "    try", "      say 1", "    last", "      leave", "  call f()"]
            self.assertEqual(run(lines(*rows)), [("ever", ["1", "0"])])
            rows = ["def f()", "  while yes", "    try", "      while yes", "        try", "          give 5", "        last",
                    "          leave", "      raise 6", "    catch e", "      say e", "    last", "      say 7", "call f()"]
            self.assertEqual(run(lines(*rows)), [("ever", ["6", "7"])])

    def test_a_while_within_the_try_is_left_alone(self):
        rows = ["try", "  while yes", "    leave", "  say 1", "last", "  say 2", "say 3"]
        self.assertEqual(said(lines(*rows)), ["1", "2", "3"])


if __name__ == "__main__":
    unittest.main()
