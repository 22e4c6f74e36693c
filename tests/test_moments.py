"""The class Moment and start: points [26] to [28] and, for them, [3] and [5]."""

import unittest

from helping import at, counted, lines, lists_in, many_of, shallow

from everyanswer.errors import NoAnswer, NoName, NotAsked
from everyanswer.graphs import graph
from everyanswer.likeness import alike, apart_fault, kinds, relation_fault
from everyanswer.machines import started
from everyanswer.moments import Moment, start
from everyanswer.programs import Program
from everyanswer.questions import always, ever, values
from everyanswer.runs import events
from everyanswer.shapes import shape_of
from everyanswer.texts import read

NOWHERE = ((), ())
ASKS = lines("let a = no", "while (not a)", "  ask a 'more'", "  say a", "ask a 'last'", "say 'bye'")
OVER = ("say 1", "raise 1", "while yes", "")


def begin(*rows):
    return start(read(lines(*rows)))


class Start(unittest.TestCase):
    def test_what_is_said_ahead(self):
        said, moment = begin("say 1", "let a = [2]", "say a", "ask a 'b c'", "say 3")
        self.assertEqual(said, ["1", "[2]"])
        self.assertIsInstance(moment, Moment)
        self.assertEqual(moment.event(), ("ask", "b c"))
        self.assertIsInstance(begin("ask a ''"), tuple)
        self.assertEqual(begin("ask a ''")[0], [])
        self.assertEqual(begin("ask a ''")[1].event(), ("ask", ""))

    def test_each_end(self):
        self.assertEqual([(said, moment.event()) for said, moment in [begin(rows) for rows in OVER]],
                         [(["1"], ("ended",)), ([], ("failed", "1")), ([], ("ever", [])), ([], ("ended",))])
        self.assertEqual(begin("say 1", "raise ['a', none]")[1].event(), ("failed", "['a', none]"))
        self.assertEqual(begin("say nobody")[1].event(), ("failed", "unset"))

    def test_too_many(self):
        self.assertEqual(many_of(begin, "let n = 0", "while yes", "  set n = (n + 1)"), 3000)

    def test_the_program_can_be_started_again(self):
        program = read(ASKS)
        _, one = start(program)
        one.answered(True)
        _, two = start(program)
        self.assertEqual(one, two)


class Answered(unittest.TestCase):
    def test_step_by_step(self):
        said, moment = begin(ASKS)
        self.assertEqual((said, moment.event()), ([], ("ask", "more")))
        said, moment = moment.answered(False)
        self.assertEqual((said, moment.event()), (["no"], ("ask", "more")))
        said, moment = moment.answered(True)
        self.assertEqual((said, moment.event()), (["yes"], ("ask", "last")))
        result = moment.answered(False)
        self.assertIsInstance(result, tuple)
        self.assertEqual((result[0], result[1].event()), (["bye"], ("ended",)))

    def test_what_is_said_with_the_answer(self):
        _, moment = begin("let a = 1", "def f()", "  ask a 'q'", "  give a", "say call f()", "raise a")
        said, goal = moment.answered(True)
        self.assertEqual((said, goal.event()), (["yes"], ("failed", "yes")))
        self.assertEqual(moment.answered(False)[0], ["no"])

    def test_a_name_that_is_unset(self):
        self.assertEqual(at("ask a 'q'\nsay 1", [True]).event(), ("failed", "unset"))
        said, moment = at("try\n  ask a 'q'\n  say 1\ncatch e\n  say e\nlast\n  ask e 'r'").answered(True)
        self.assertEqual((said, moment.event()), (["unset"], ("ask", "r")))

    def test_a_name_further_out(self):
        moment = at("let a = 1\ndef f()\n  ask a 'q'\ncall f()\nsay a\nask a 'r'")
        said, moment = moment.answered(False)
        self.assertEqual((said, moment.value("a")), (["no"], "no"))

    def test_no_answer(self):
        moment = at(ASKS)
        for thing in (None, 0, 1, "", "yes", "True", [], [True], (True,), {}, moment, Program([])):
            self.assertRaises(NoAnswer, moment.answered, thing)

    def test_no_answer_goes_ahead_of_not_asked(self):
        for text in OVER:
            moment = at(text)
            for thing in (None, 0, 1, "no", [False]):
                self.assertRaises(NoAnswer, moment.answered, thing)
            for answer in (True, False):
                self.assertRaises(NotAsked, moment.answered, answer)

    def test_not_asked_behind_answers(self):
        moment = at(ASKS, [True, True])
        self.assertEqual(moment.event(), ("ended",))
        self.assertRaises(NotAsked, moment.answered, True)

    def test_too_many_last(self):
        moment = at(lines("let a = 1", "ask a 'q'", "let n = 0", "while a", "  set n = (n + 1)"))
        self.assertRaises(NoAnswer, moment.answered, 1)
        self.assertEqual(many_of(moment.answered, True), 3000)
        self.assertEqual(moment.answered(False)[1].event(), ("ended",))

    def test_a_moment_stays(self):
        rows = lines("let l = []", "let a = 1", "while (len(l) < 9)", "  ask a 'q'", "  add l, [a, l]", "  let n = 0",
                     "  while (a == (len(l) == 2))", "    set n = (n + 1)")
        moment = at(rows, [True])
        before = (moment.shape(), moment.event(), moment.value("l"), moment.programs())
        behind = moment.answered(False)
        self.assertEqual(many_of(moment.answered, True), 3000)
        self.assertRaises(NoAnswer, moment.answered, 2)
        for _ in range(3):
            said, goal = moment.answered(False)
            self.assertEqual((said, goal), behind)
            self.assertEqual(goal.value("l"), "[[..], [..]]")
        self.assertEqual((moment.shape(), moment.event(), moment.value("l"), moment.programs()), before)

    def test_things_are_not_shared_with_the_moment_behind(self):
        rows = lines("class k", "let o = call k()", "put o.n = 0", "let a = 1", "while (o.n < 3)", "  ask a 'q'", "  put o.n = (o.n + 1)",
                     "  say o.n")
        moment = at(rows)
        found = []
        for _ in range(2):
            goal = moment
            for _ in range(3):
                said, goal = goal.answered(True)
                found += said
        self.assertEqual(found, ["1", "2", "3"] * 2)

    def test_a_long_row(self):
        moment = at(lines("let a = 1", "let n = 0", "while (n < 400)", "  ask a 'q'", "  set n = (n + 1)", "  if a", "    say n"))
        found = []
        for index in range(400):
            said, moment = moment.answered(index % 100 == 0)
            found += said
        self.assertEqual((found, moment.event()), (["1", "101", "201", "301"], ("ended",)))

    def test_what_is_kept_goes_on(self):
        rows = ["def f()", "  while yes", "    try", "      {}", "    catch e", "      raise [e]", "    last", "      ask x 'q'",
                "  give 'left'", "let x = 1", "say call f()"]
        for row, want in (("let y = 1", ([], ("ask", "q"))), ("give 'x'", (["x"], ("ended",))), ("leave", (["left"], ("ended",))),
                          ("raise 1", ([], ("failed", "[1]")))):
            said, moment = at(lines(*rows).format(row)).answered(True)
            self.assertEqual((said, moment.event()), want)

    def test_what_a_frame_makes_goes_on(self):
        rows = lines("class k", "  def make(self, x)", "    put self.x = x", "    ask x 'q'", "    give 5", "let o = call k(7)", "say o.x", "say o")
        self.assertEqual(at(rows).answered(True)[0], ["7", "<object>"])

    def test_what_is_shared_goes_on(self):
        rows = lines("let a = [1]", "let b = [1]", "let c = a", "let x = 1", "ask x 'q'", "say (a == b)", "say (a == c)", "add c, 2", "say a", "say b")
        self.assertEqual(at(rows).answered(True)[0], ["no", "yes", "[1, 2]", "[1]"])

    def test_above_goes_on(self):
        rows = lines("class k", "  def m(self)", "    give 'k'", "class j over k", "  def m(me, x)", "    ask x 'q'", "    give call above m()",
                     "let o = call j()", "say call o.m(1)")
        self.assertEqual(at(rows).answered(True)[0], ["k"])

    def test_each_kind_of_call_goes_on(self):
        rows = ["let x = 1", "let y = 1", "def f()", "  ask x 'q'", "  give [x]", "def g()", "  give call f()", "{}", "say y"]
        for row, want in (("let y = call f()", ["[yes]"]), ("set y = call f()", ["[yes]"]), ("call f()", ["1"]),
                          ("say call f()", ["[yes]", "1"]), ("say call g()", ["[yes]", "1"])):
            self.assertEqual(at(lines(*rows).format(row)).answered(True)[0], want)


class Telling(unittest.TestCase):
    def test_events_are_new(self):
        moment = at("while yes\n  say 1")
        moment.event()[1].append("2")
        self.assertEqual(moment.event(), ("ever", ["1"]))
        self.assertEqual(moment, at("while yes\n  say 1"))

    def test_programs(self):
        program = read(ASKS)
        _, moment = start(program)
        self.assertEqual(moment.programs(), [program])
        self.assertIsInstance(moment.programs()[0], Program)
        moment.programs().clear()
        self.assertEqual(moment.programs(), [program])
        self.assertEqual(moment.answered(True)[1].programs(), [program])
        for text in OVER:
            self.assertEqual(at(text).programs(), [read(text)])

    def test_what_is_told_is_new(self):
        said, moment = begin("say 1", "let a = 1", "ask a 'q'", "say 2")
        said.append("x")
        found = moment.answered(True)
        found[0].clear()
        self.assertEqual(moment.answered(True)[0], ["2"])
        self.assertEqual(begin("say 1", "let a = 1", "ask a 'q'")[0], ["1"])
        self.assertEqual(lists_in(moment.shape()), [])
        hash(moment.shape())

    def test_a_program_is_changed_by_nobody(self):
        block = [("let", "a", ("list", [])), ("ask", "a", "q"), ("say", ("name", "a"))]
        program = Program(block)
        _, moment = start(program)
        block.clear()
        moment.programs()[0].block().clear()
        self.assertEqual(moment.answered(True)[0], ["yes"])


class Value(unittest.TestCase):
    def test_words(self):
        rows = lines("let a = none", "let b = yes", "let c = 'a b'", "let d = [1, [2], 'x']", "let e = {1: []}", "def f()", "class g",
                     "let h = call g()", "let i = (0 - 7)", "let j = ''", "ask a 'q'")
        moment = at(rows)
        self.assertEqual([moment.value(name) for name in "abcdefghij"],
                         ["none", "yes", "a b", "[1, [..], 'x']", "{1: []}", "<function>", "<class>", "<object>", "-7", ""])
        self.assertIsNone(moment.value("x"))

    def test_from_the_newest_frame(self):
        rows = lines("let a = 1", "let b = 2", "let c = 9", "def f(b)", "  def g()", "    let c = 4", "    ask a 'q'", "  call g()", "call f(3)")
        moment = at(rows)
        self.assertEqual([moment.value(name) for name in "abcd"], ["1", "3", "4", None])
        self.assertEqual(at("def f(x)\n  let y = 1\ncall f(2)\nask z 'q'").value("x"), None)

    def test_not_from_the_caller(self):
        moment = at("def g()\n  ask x 'q'\ndef f(y)\n  call g()\ncall f(1)")
        self.assertIsNone(moment.value("y"))
        self.assertEqual(moment.value("f"), "<function>")

    def test_bound_functions(self):
        self.assertEqual(at("class k\n  def m(self)\nlet o = call k()\nlet o = o.m\nask o 'q'").value("o"), "<function>")

    def test_no_frames(self):
        for text in OVER:
            self.assertIsNone(at("let a = 1\n" + text if text else text).value("a"))
        self.assertIsNone(at(ASKS, [True, True]).value("a"))

    def test_no_name(self):
        for moment in (at(ASKS), at("say 1"), at("raise 1"), at("while yes")):
            for thing in (None, 1, True, "", "A", "a1", "a b", "abcdefghi", "let", "none", "above", "at", "yes", ["a"], ("a",), {}, moment):
                self.assertRaises(NoName, moment.value, thing)
            self.assertIsNone(moment.value("abcdefgh"))
            self.assertIsNone(moment.value("make"))


class Equal(unittest.TestCase):
    def test_shapes_count(self):
        moment = at(ASKS)
        self.assertTrue(moment == moment.answered(False)[1])
        self.assertFalse(moment != moment.answered(False)[1])
        self.assertFalse(moment == moment.answered(True)[1])
        self.assertTrue(moment != moment.answered(True)[1])
        self.assertIs(moment == moment.answered(False)[1], True)
        for other in (moment.answered(True)[1], at("say 1"), at(ASKS + "\nsay 1")):
            self.assertIs(moment == other, False)
        rows = "let a = no\nwhile yes\n  ask a 'q'"
        self.assertFalse(at(rows) == at(rows, [True]))
        self.assertTrue(at(rows) == at(rows, [False]))
        self.assertTrue(at(rows, [True]) == at(rows, [False, False, True]))

    def test_the_way_does_not_count(self):
        rows = "let a = no\nlet l = [1]\nwhile yes\n  ask a 'q'\n  if a\n    let l = [1]\n  else\n    say l\n    let m = [l]\n    let m = 0\n  let m = 0\n  let a = 0"
        self.assertFalse(at(rows) == at(rows, [True]))
        self.assertTrue(at(rows, [False]) == at(rows, [True]))
        self.assertTrue(at(rows, [False]) == at(rows, [True, False, True]))

    def test_editions_count(self):
        one, other = (at(f"let a = 1\nask a 'q'\nsay {n}") for n in (1, 2))
        self.assertEqual((one.shape(), one.event()), (other.shape(), other.event()))
        self.assertFalse(one == other)
        self.assertTrue(one == at("let a = 1\nask a 'q'\nsay 1"))
        self.assertFalse(at("say 1") == at("say 2"))
        self.assertTrue(at("say 1") == at("say 1"))
        self.assertFalse(at("") == at("say 2"))

    def test_events_count(self):
        rows = lines("let a = 1", "let b = 1", "ask a 'q'", "ask b 'r'", "if a", "  if b", "    raise 1", "  raise 2", "if b", "  while yes",
                     "    say 1", "say 2")
        ends = [at(rows, row) for row in ([True, True], [True, False], [False, True], [False, False])]
        self.assertEqual([end.event() for end in ends], [("failed", "1"), ("failed", "2"), ("ever", ["1"]), ("ended",)])
        for index, one in enumerate(ends):
            self.assertEqual(one.shape(), NOWHERE)
            self.assertEqual([one == other for other in ends], [index == k for k in range(4)])
        rows = lines("let a = 1", "ask a 'q'", "while yes", "  say a")
        self.assertFalse(at(rows, [True]) == at(rows, [False]))
        rows = lines("let a = 1", "ask a 'q'", "while yes", "  say 'a'", "  say 'b'")
        self.assertTrue(at(rows, [True]) == at(rows, [False]))

    def test_ends_of_unlike_ways(self):
        rows = lines("let a = 1", "ask a 'q'", "say a")
        self.assertTrue(at(rows, [True]) == at(rows, [False]))
        rows = lines("let a = 1", "ask a 'q'", "if a", "  raise '1'", "raise 1")
        self.assertTrue(at(rows, [True]) == at(rows, [False]))

    def test_a_text_may_stand_for_none(self):
        # [27]: an event tells the end whole; the words are what counts.
        self.assertTrue(at("let a = 1\nask a 'q'\nif a\n  raise none\nraise 'none'", [True])
                        == at("let a = 1\nask a 'q'\nif a\n  raise none\nraise 'none'", [False]))

    def test_equal_moments_go_on_alike(self):
        rows = "let l = []\nlet a = 1\nwhile yes\n  ask a 'q'\n  if a\n    let l = [l, l]\n    say l\n  else\n    let l = []"
        one, other = at(rows, [True, False]), at(rows, [False])
        self.assertEqual(one, other)
        for answer in (True, False):
            self.assertEqual(one.answered(answer), other.answered(answer))


class ForEver(unittest.TestCase):
    def told(self, *rows, answers=()):
        said, moment = begin(*rows)
        for answer in answers:
            said, moment = moment.answered(answer)
        self.assertEqual(moment.shape(), NOWHERE)
        return said, moment.event()

    def test_the_shortest_lists(self):
        self.assertEqual(self.told("while yes"), ([], ("ever", [])))
        self.assertEqual(self.told("say 1", "while yes", "  let a = 1"), (["1"], ("ever", [])))
        self.assertEqual(self.told("say 1", "while yes", "  say 1"), ([], ("ever", ["1"])))
        self.assertEqual(self.told("say 2", "say 1", "while yes", "  say 2", "  say 1"), ([], ("ever", ["2", "1"])))
        self.assertEqual(self.told("say 1", "while yes", "  say 2", "  say 1"), ([], ("ever", ["1", "2"])))
        self.assertEqual(self.told("say 3", "say 1", "while yes", "  say 2", "  say 1"), (["3"], ("ever", ["1", "2"])))
        self.assertEqual(self.told("say 1", "while yes", "  say 2", "  say 2"), (["1"], ("ever", ["2"])))
        self.assertEqual(self.told("while yes", "  say 1", "  say 2", "  say 1", "  say 2"), ([], ("ever", ["1", "2"])))
        self.assertEqual(self.told("while yes", "  say 1", "  say 1", "  say 2"), ([], ("ever", ["1", "1", "2"])))
        self.assertEqual(self.told("let n = 1", "while yes", "  say n", "  if (n < 3)", "    set n = (n + 1)"),
                         (["1", "2"], ("ever", ["3"])))

    def test_words_ahead_of_the_question_do_not_count(self):
        rows = ["say 1", "say 2", "let a = 1", "ask a 'q'", "say 2", "while yes", "  say 1", "  say 2"]
        self.assertEqual(self.told(*rows, answers=[True]), ([], ("ever", ["2", "1"])))

    def test_once_in_words_and_in_silence_behind(self):
        rows = ["let a = 1", "ask a 'q'", "say a", "say a", "while yes", "  if a", "    say 0", "    set a = no"]
        self.assertEqual(self.told(*rows, answers=[True]), (["yes", "yes", "0"], ("ever", [])))
        self.assertEqual(self.told(*rows, answers=[False]), (["no", "no"], ("ever", [])))

    def test_a_shape_since_the_last_question_only(self):
        rows = ["let a = no", "let n = 0", "while yes", "  if (n == 2)", "    set n = 0", "    ask a 'q'", "  else", "    set n = (n + 1)"]
        _, moment = begin(*rows)
        for _ in range(3):
            said, moment = moment.answered(False)
            self.assertEqual((said, moment.event()), ([], ("ask", "q")))

    def test_another_while_or_another_frame_is_no_round(self):
        rows = ["let n = 0", "def f(x)", "  while (n < 2)", "    set n = (n + 1)", "    call f(x)", "call f(1)", "let a = 0", "ask a 'q'"]
        self.assertEqual(begin(*rows)[1].event(), ("ask", "q"))
        rows = ["let n = 3", "while (n < 2)", "while (n < 2)", "let a = 0", "ask a 'q'"]
        self.assertEqual(begin(*rows)[1].event(), ("ask", "q"))

    def test_a_scope_for_each_call_is_dropped(self):
        self.assertEqual(self.told("def f(x)", "  let y = [x]", "  give y", "while yes", "  let z = call f(1)", "  say z"),
                         ([], ("ever", ["[1]"])))

    def test_growing_is_no_round(self):
        ahead = ["let l = []", "let d = {}", "class k", "  def make(self, x)", "    put self.x = x", "let o = call k(0)",
                 "def g(f)", "  def h()", "    say f", "  give h", "let f = 0"]
        for row in ("let l = [l]", "let d = {1: d}", "class k over k", "let o = call k(o)", "let f = call g(f)"):
            self.assertEqual(many_of(begin, *ahead, "while yes", f"  {row}"), 3000, row)


class Three(unittest.TestCase):
    """TooMany(3000), with start and with answered."""

    def ends(self, *rows):
        """What comes of the rows ahead of the first question, and behind one."""
        one = many_of(begin, *rows)
        _, moment = begin("let n = 1", "ask n 'q'", *rows)
        self.assertEqual(many_of(moment.answered, True), one)
        return one

    def test_the_last_statement(self):
        rows = counted(1498)
        # 2 + 2 * 1498 + 1 = 2999 statements.
        self.assertEqual(self.ends(*rows), None)
        self.assertEqual(self.ends(*rows, "say 1"), None)
        self.assertEqual(self.ends(*rows, "say 1", "say 1"), 3000)
        self.assertEqual(self.ends(*rows, "say 1", "ask n 'q'"), None)
        self.assertEqual(self.ends(*rows, "raise 1", "say 1"), None)
        self.assertEqual(self.ends(*rows, "say 1", "while no"), 3000)
        self.assertEqual(self.ends(*rows, "while no"), None)
        self.assertEqual(self.ends(*rows, "if yes", "  say 1"), 3000)

    def test_moments_there(self):
        rows = counted(1498)
        said, moment = begin(*rows, "say 1", "ask n 'q'", *rows, "say 2")
        self.assertEqual((said, moment.event()), (["1"], ("ask", "q")))
        said, moment = moment.answered(True)
        self.assertEqual((said, moment.event()), (["2"], ("ended",)))

    def test_a_round_just_behind_at_and_beyond(self):
        rows = ["let n = 0", "while yes", "  set n = (n + 1)", "  if (n == 999)", "    set n = 0"]
        # The while comes again behind 1 + 3 * 999 + 1 = 2999 statements.
        for many, want in ((0, None), (1, None), (2, 3000), (3, 3000)):
            ahead = ["let a = 0"] * many
            self.assertEqual(self.ends(*ahead, *rows), want, many)
        self.assertEqual(begin("let a = 0", *rows)[1].event(), ("ever", []))

    def test_a_short_round_late(self):
        # The rounds begin behind 2999 and 3001 statements, or 2998 and 3000.
        self.assertEqual(self.ends(*counted(1498), "while yes", "  let a = 1"), 3000)
        self.assertEqual(self.ends(*counted(1498), "while yes"), None)
        self.assertEqual(self.ends(*counted(1498), "say 1", "while yes"), 3000)
        self.assertEqual(self.ends(*counted(1497), "say 1", "while yes"), None)
        self.assertEqual(self.ends(*counted(1497), "say 1", "while yes", "  say n"), None)
        self.assertEqual(begin(*counted(1497), "say 1", "while yes", "  say n")[1].event(), ("ever", ["1497"]))


class Chains(unittest.TestCase):
    """Long chains of things are told, compared and gone on with without deep recursion."""

    LINKS = {
        "lists": (["let l = []"], ["set l = [l]"]),
        "tables": (["let l = {}"], ["set l = {1: l}"]),
        "lists that are added to": (["let l = []"], ["let m = []", "add m, l", "set l = m"]),
        "objects": (["class k", "let l = 0"], ["let m = call k()", "put m.l = l", "set l = m"]),
        "classes": (["class l"], ["class l over l"]),
        "functions": (["def f(x)", "  def g()", "    give x", "  give g", "let l = 0"], ["set l = call f(l)"]),
        "bound": (["class k", "  def m(self)", "let l = 0"], ["let m = call k()", "put m.l = l", "set l = m.m"]),
    }

    def program(self, ahead, inner, *last):
        """A program that makes three hundred links ahead of its first question."""
        return read(lines(*ahead, "let n = 0", "let a = no", "while (n < 300)", *["  " + row for row in inner], "  set n = (n + 1)", *last))

    def test_one_link_more_with_each_yes(self):
        for word, (ahead, inner) in self.LINKS.items():
            program = self.program(ahead, inner, "while yes", "  ask a 'q'", "  if a", *["    " + row for row in inner], "  set a = no")
            shallow(self.compare, program, word)

    def compare(self, program, word):
        _, one = start(program)
        self.assertGreater(len(one.shape()[1]), 300, word)
        _, same = one.answered(False)
        self.assertTrue(one == same, word)
        _, other = one.answered(True)
        self.assertFalse(one == other, word)
        self.assertFalse(other == other.answered(True)[1], word)
        self.assertTrue(other == other.answered(False)[1], word)
        self.assertEqual(one.value("n"), "300")
        self.assertIsInstance(one.value("l"), str)
        self.assertEqual(apart_fault(one, other, [True, False, True]), ("kept",))
        self.assertEqual(relation_fault(one, one, [(one, same)]), ("behind", 0, True))
        self.assertEqual(many_of(lambda: graph(one, most=5)), 5)

    def test_graphs(self):
        for word, (ahead, inner) in self.LINKS.items():
            program = self.program(ahead, inner, "while (n < 302)", "  ask a 'q'", "  set n = (n + 1)", *["  " + row for row in inner], "  set a = no")
            shallow(self.explore, program, word)

    def explore(self, program, word):
        _, one = start(program)
        rows = graph(one)
        self.assertEqual([behind for _, behind in rows], [[([], 1), ([], 1)], [([], 2), ([], 2)], []], word)
        self.assertEqual(alike(one, one), ("alike", [(0, 0), (1, 1), (2, 2)]))
        self.assertEqual(kinds(one), [[0], [1], [2]])
        self.assertEqual(len(values(program, program.paths()[-1], "n")), 2)
        self.assertEqual(ever(program, program.paths()[-1]), ("answers", [False]))
        self.assertEqual(always(program, program.paths()[-1]), ("always", 1))
        self.assertIsNone(relation_fault(one, one, [(node, node) for node, _ in rows]))

    def test_two_hundred_moments(self):
        rows = lines("let l = []", "let a = 1", "let n = 0", "while yes", "  ask a 'q'", "  let a = 1", "  let l = [l]")
        self.assertEqual(many_of(shallow, graph, at(rows)), 200)
        self.assertEqual(many_of(shallow, ever, read(rows), (0,)), 200)


class TheSameRun(unittest.TestCase):
    """What start and answered tell is what events tells."""

    def test_by_hand(self):
        for text in (ASKS, *OVER, "let a = 1\nwhile yes\n  ask a 'q'\n  say a\n  if a\n    raise a"):
            program = read(text)
            for row in ([], [True], [False, True], [False, False, True, True]):
                said, moment = start(program)
                out = [("say", words) for words in said]
                for answer in row:
                    if moment.event()[0] == "ask":
                        out.append(moment.event())
                        said, moment = moment.answered(answer)
                        out += [("say", words) for words in said]
                event = moment.event()
                out.append(("wait", event[1]) if event[0] == "ask" else event)
                self.assertEqual(events(program, row), out)

    def test_a_shape_is_that_of_the_run(self):
        program = read(ASKS)
        machine = started(program)
        while machine.event() is None:
            machine.step()
        self.assertEqual(start(program)[1].shape(), shape_of(machine.frames))


if __name__ == "__main__":
    unittest.main()
