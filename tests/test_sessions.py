"""Sessions, in which a program is led step by step, and back: point [41]."""

import unittest
import unittest.mock

from helping import NOTHING, TURNS, YES, at, counted, lines, lists_in, name, num, say, text

from everyanswer.errors import (
    AnswerError, NoAnswer, NoBack, NoCode, NoExpression, NoProgram, NotAsked, Over, TooMany, Waiting,
)
from everyanswer.exchange import exchanged
from everyanswer.machines import Machine
from everyanswer.moments import Moment, start
from everyanswer.programs import Program
from everyanswer.runs import events
from everyanswer.sessions import Session
from everyanswer.texts import read

NOWHERE = ((), ())
ASKS = ["let a = no", "say 1", "ask a 'q'", "say a"]
ENDLESS = ["let n = 0", "while yes", "  set n = (n + 1)", "  say n"]


def session(*rows):
    return Session(read(lines(*rows)))


def led(*rows, answers=()):
    """A session that was led with these answers to the next question or the end."""
    found = session(*rows)
    found.go()
    for answer in answers:
        found.answer(answer)
        found.go()
    return found


def whole(one):
    """All that a session tells of where it stands."""
    return one.event(), one.path(), one.codes(), one.shape(), one.said(), len(one)


def states():
    """Sessions ahead of a statement, at a question, ended and failed."""
    return {"ahead": session(*ASKS), "ask": led(*ASKS), "ended": led(*ASKS, answers=[True]), "failed": led("say 1", "raise 'x'"),
            "empty": session("")}


class Steps(unittest.TestCase):
    def test_at_first(self):
        one = session(*ASKS)
        self.assertEqual(whole(one), (("ahead",), (0,), [()], (((0, (0,), 0, (), None, None),), (("scope", None, ()),)), [], 0))
        one = session("ask a 'q'")
        self.assertEqual(whole(one)[:3], (("ask", "q"), (0,), [()]))
        self.assertEqual(len(one), 0)

    def test_the_empty_program(self):
        one = session("")
        self.assertEqual(whole(one), (("ended",), None, [], NOWHERE, [], 0))
        self.assertRaises(Over, one.step)
        self.assertEqual(one.go(), [])
        self.assertEqual(one.moment().event(), ("ended",))
        self.assertTrue(one.moment() == at(""))
        self.assertRaises(NoBack, one.back)

    def test_one_after_the_other(self):
        one = session("let a = 1", "say a", "if (a == 1)", "  say [a]", "  say 'x'", "say 3")
        found = []
        while one.event() == ("ahead",):
            path = one.path()
            found.append((path, one.step()))
        self.assertEqual(found, [((0,), []), ((1,), ["1"]), ((2,), []), ((2, 0, 0), ["[1]"]), ((2, 0, 1), ["x"]), ((3,), ["3"])])
        self.assertEqual(whole(one), (("ended",), None, [], NOWHERE, ["1", "[1]", "x", "3"], 6))

    def test_empty_blocks_are_passed(self):
        one = session("if yes", "if no", "  say 1", "try", "catch e", "try", "last", "  say 2", "while no", "  say 3", "def f()",
                      "call f()", "say call f()", "say 4")
        paths = []
        while one.path() is not None:
            paths.append(one.path())
            one.step()
        self.assertEqual(paths, [(0,), (1,), (2,), (3,), (3, 2, 0), (4,), (5,), (6,), (7,), (8,)])
        self.assertEqual(one.said(), ["2", "none", "4"])

    def test_a_while_begins_again(self):
        one = session("let n = 0", "while (n < 2)", "  set n = (n + 1)", "say n")
        paths = []
        while one.path() is not None:
            paths.append(one.path())
            one.step()
        self.assertEqual(paths, [(0,), (1,), (1, 0, 0), (1,), (1, 0, 0), (1,), (3 - 1,)])
        one = session("while yes")
        for many in range(5):
            self.assertEqual((one.path(), one.step(), len(one)), ((0,), [], many + 1))

    def test_calls_and_results(self):
        one = session("def f(x)", "  def g()", "    give 7", "  say x", "  give call g()", "say call f(1)", "let y = call f(2)", "say y")
        found = []
        while one.path() is not None:
            found.append((one.path(), one.codes(), one.step()))
        top, f, g = (), (0, 0), (0, 0, 0, 0)
        inside = lambda said, last: [((0, 0, 0), [top, f], []), ((0, 0, 1), [top, f], said), ((0, 0, 2), [top, f], []),
                                     ((0, 0, 0, 0, 0), [top, f, g], last)]
        self.assertEqual(found, [((0,), [top], []), ((1,), [top], []), *inside(["1"], ["7"]), ((2,), [top], []), *inside(["2"], []),
                                 ((3,), [top], ["7"])])

    def test_several_words_in_one_step(self):
        """Results that are handed on are said in the step in which they come."""
        one = session("let l = [1]", "def g()", "  say 'g'", "def f()", "  say call g()", "say call f()", "say 'end'")
        said = []
        while one.path() is not None:
            said.append(one.step())
        self.assertEqual(said, [[], [], [], [], [], ["g", "none", "none"], ["end"]])

    def test_errors_on_their_way(self):
        one = session("def f()", "  try", "    raise 'x'", "  last", "    say 'last'", "try", "  say call f()", "catch e", "  say e",
                      "raise [e]")
        found = []
        while one.path() is not None:
            found.append((one.path(), one.step()))
        self.assertEqual(found, [((0,), []), ((1,), []), ((1, 0, 0), []), ((0, 0, 0), []), ((0, 0, 0, 0, 0), []),
                                 ((0, 0, 0, 2, 0), ["last"]), ((1, 1, 0), ["x"]), ((2,), [])])
        self.assertEqual(whole(one), (("failed", "['x']"), None, [], NOWHERE, ["last", "x"], 8))

    def test_gives_and_leaves(self):
        one = session("def f()", "  while yes", "    try", "      leave", "    last", "      say 1", "  try", "    give 2", "  last",
                      "    say 3", "say call f()", "say 4")
        found = []
        while one.path() is not None:
            found.append((one.path(), one.step()))
        self.assertEqual(found, [((0,), []), ((1,), []), ((0, 0, 0), []), ((0, 0, 0, 0, 0), []), ((0, 0, 0, 0, 0, 0, 0), []),
                                 ((0, 0, 0, 0, 0, 2, 0), ["1"]), ((0, 0, 1), []), ((0, 0, 1, 0, 0), []), ((0, 0, 1, 2, 0), ["3", "2"]),
                                 ((2,), ["4"])])

    def test_shapes_on_the_way(self):
        one = session("let a = []", "try", "  raise a", "last", "  add a, a")
        one.step()
        self.assertEqual(one.shape(), (((0, (1,), 0, (), None, None),), (("scope", None, (("a", ("thing", 1)),)), ("list", ()))))
        one.step()
        one.step()
        self.assertEqual(one.shape(), (((0, (1, 2, 0), 0, (("raise", ("thing", 1)),), None, None),),
                                       (("scope", None, (("a", ("thing", 1)),)), ("list", ()))))
        self.assertEqual(one.step(), [])
        self.assertEqual((one.event(), one.shape()), (("failed", "[[..]]"), NOWHERE))

    def test_wrong(self):
        for state, one in states().items():
            before = whole(one)
            if state == "ahead":
                one.step()
            elif state == "ask":
                self.assertRaises(Waiting, one.step)
                self.assertEqual(whole(one), before)
            else:
                self.assertRaises(Over, one.step)
                self.assertEqual(whole(one), before)

    def test_what_is_returned_is_new(self):
        one = led("say 1", "say 2", "ask a 'q'")
        one.said().append("x")
        one.codes().append(0)
        self.assertEqual((one.said(), one.codes()), (["1", "2"], [()]))
        one = session("say 1", "say 2")
        one.step().append("x")
        self.assertEqual(one.said(), ["1"])
        one.go().append("x")
        self.assertEqual(one.said(), ["1", "2"])
        one = led("let a = 1", "def f()", "  ask a 'q'", "say call f()")
        one.answer(True).append("x")
        self.assertEqual(one.said(), ["none"])


class Answers(unittest.TestCase):
    def test_an_answer(self):
        one = led(*ASKS)
        self.assertEqual((one.event(), one.path(), one.said()), (("ask", "q"), (2,), ["1"]))
        self.assertEqual(one.answer(True), [])
        self.assertEqual((one.event(), one.path(), len(one)), (("ahead",), (3,), 4 - 1))
        self.assertEqual(one.step(), ["yes"])
        self.assertEqual(one.event(), ("ended",))

    def test_what_follows_at_once(self):
        one = led("let a = 1", "def f()", "  ask a 'q'", "say call f()", "say 2")
        self.assertEqual((one.answer(False), one.path()), (["none"], (3,)))
        one = led("let a = 1", "def f()", "  ask a 'q'", "say call f()")
        self.assertEqual((one.answer(False), one.event()), (["none"], ("ended",)))
        one = led("let a = 1", "ask a 'q'", "ask a 'r'")
        self.assertEqual((one.answer(False), one.event()), ([], ("ask", "r")))

    def test_a_name_that_is_unset(self):
        one = led("ask a 'q'", "say 1")
        self.assertEqual((one.answer(True), one.event()), ([], ("failed", "unset")))
        one = led("try", "  ask a 'q'", "catch e", "  say e")
        self.assertEqual((one.answer(True), one.event(), one.path()), ([], ("ahead",), (0, 1, 0)))

    def test_wrong(self):
        for state, one in states().items():
            before = whole(one)
            for answer in [None, 0, 1, "yes", "", [], (True,), [True], {}, ("yes",), 2, one]:
                self.assertRaises(NoAnswer, one.answer, answer)
            if state == "ahead":
                self.assertRaises(NotAsked, one.answer, True)
                self.assertRaises(NotAsked, one.answer, False)
            elif state != "ask":
                self.assertRaises(Over, one.answer, True)
                self.assertRaises(Over, one.answer, False)
            self.assertEqual(whole(one), before)


class Go(unittest.TestCase):
    def test_to_a_question_and_to_the_end(self):
        one = session(*ASKS)
        self.assertEqual((one.go(), one.event(), len(one)), (["1"], ("ask", "q"), 2))
        self.assertEqual((one.go(), len(one)), ([], 2))
        one.answer(False)
        self.assertEqual((one.go(), one.event(), len(one)), (["no"], ("ended",), 4))
        self.assertEqual((one.go(), len(one)), ([], 4))
        one = session("say 1", "raise 2")
        self.assertEqual((one.go(), one.event()), (["1"], ("failed", "2")))
        self.assertEqual(one.go(), [])

    def test_only_what_these_steps_say(self):
        one = session("say 1", "say 2", "say 3")
        one.step()
        self.assertEqual((one.go(), one.said()), (["2", "3"], ["1", "2", "3"]))

    def test_3000_steps(self):
        """With 2999 and 3000 steps the run comes to its end or to a question; with 3001 it stands at another statement."""
        for steps in (2999, 3000, 3001):
            for last, event in (([], ("ended",)), (["raise 'x'"], ("failed", "x")), (["ask m 'q'"], ("ask", "q"))):
                many = 1494
                rest = steps - 3 - 2 * many - (event[0] == "failed")
                self.check(steps, event, session(*counted(many), "if yes", *["  say 'b'"] * (rest - 1), *last))

    def check(self, steps, event, one):
        """A session that comes to this event behind so many steps."""
        if steps <= 3000:
            one.go()
        else:
            with self.assertRaises(TooMany) as caught:
                one.go()
            self.assertEqual((caught.exception.many, one.event(), len(one)), (3000, ("ahead",), 3000))
            one.step()
        self.assertEqual((one.event(), len(one)), (event, steps))
        self.assertEqual(one.go(), [])

    def test_as_events_count(self):
        for rows in (counted(1498), counted(1498) + ["say 1"], counted(1498) + ["say 1", "say 2"], counted(1498) + ["say 1", "ask m 'q'"]):
            one = session(*rows)
            if len(rows) > 5 and rows[-1] == "say 2":
                self.assertRaises(TooMany, events, read(lines(*rows)), [])
                self.assertRaises(TooMany, one.go)
            else:
                events(read(lines(*rows)), [])
                one.go()

    def test_for_ever(self):
        one = session(*ENDLESS)
        for many in range(1, 4):
            with self.assertRaises(TooMany) as caught:
                one.go()
            self.assertEqual(caught.exception.many, 3000)
            self.assertEqual((len(one), one.event()), (many * 3000, ("ahead",)))
            # A let, and then a while, a set and a say in turn.
            self.assertEqual(one.said(), [str(n) for n in range(1, many * 1000)])
        one.step()
        self.assertEqual(len(one), 9001)
        one.back()
        one.back()
        self.assertEqual((len(one), len(one.said())), (8999, 8998 // 3))

    def test_a_run_that_comes_again(self):
        """A session does not look for it."""
        one = session("while yes", "  say 1")
        self.assertRaises(TooMany, one.go)
        self.assertEqual((len(one), one.said(), one.path()), (3000, ["1"] * 1500, (0,)))
        self.assertRaises(NotAsked, one.moment)
        self.assertRaises(TooMany, one.go)
        self.assertEqual(len(one.said()), 3000)

    def test_each_call_counts_anew(self):
        one = session(*counted(2000), "say 'x'")
        self.assertRaises(TooMany, one.go)
        self.assertEqual(one.go(), ["x"])
        one = led(TURNS.format(3), answers=[False] * 6)
        self.assertEqual(one.event(), ("ask", "q"))


class Back(unittest.TestCase):
    def test_one_of_each(self):
        one = session("let a = no", "def f()", "  say 1", "say 'x'", "ask a 'q'", "call f()", "say a")
        places = [whole(one)]
        for action in (one.step, one.step, one.step, lambda: one.exchange((1, 0), [say(2)]), lambda: one.answer(True),
                       one.step, one.step, one.step):
            action()
            places.append(whole(one))
        self.assertEqual([place[5] for place in places], list(range(9)))
        self.assertEqual(one.said(), ["x", "2", "yes"])
        while len(one) > 0:
            self.assertEqual(whole(one), places.pop())
            self.assertIsNone(one.back())
        self.assertEqual([whole(one)], places)
        self.assertRaises(NoBack, one.back)
        self.assertEqual([whole(one)], places)

    def test_the_same_again(self):
        rows = ["let a = no", "let l = []", "while (len(l) < 5)", "  ask a 'q'", "  add l, a", "  say l"]
        for many in range(1, 12):
            one, other = led(*rows, answers=[True, False, True]), led(*rows, answers=[True, False, True])
            for _ in range(many):
                one.back()
            self.assertFalse(one.same_as(other) and len(one) == len(other))
            while len(one) < len(other):
                if one.event() == ("ahead",):
                    one.step()
                else:
                    one.answer([True, False, True][len(one.said())])
            self.assertTrue(one.same_as(other))
            self.assertEqual(whole(one), whole(other))

    def test_another_answer(self):
        one = led(*ASKS, answers=[True])
        self.assertEqual(one.said(), ["1", "yes"])
        one.back()
        one.back()
        self.assertEqual((one.event(), one.said()), (("ask", "q"), ["1"]))
        one.answer(False)
        self.assertEqual(one.go(), ["no"])

    def test_from_an_end(self):
        for row, event in (("say 2", ("ended",)), ("raise 2", ("failed", "2"))):
            one = led("let a = [1]", row)
            self.assertEqual(one.event(), event)
            one.back()
            self.assertEqual((one.event(), one.path(), one.look(name("a"))), (("ahead",), (1,), ("value", "[1]")))

    def test_things_are_as_they_were(self):
        one = session("let a = [1]", "let b = a", "add a, 2", "put a[0] = 3", "cut b",
                      "class k", "let o = call k()", "put o.x = a", "put o.x = 5", "let t = {1: 2}", "put t[1] = 7", "put t['n'] = 8")
        words = []
        while one.event() == ("ahead",):
            words.append([one.look(name(word)) for word in "abot"] + [one.look(("get", name("o"), "x"))])
            one.step()
        self.assertEqual(len(words), 12)
        for want in words[::-1]:
            one.back()
            self.assertEqual([one.look(name(word)) for word in "abot"] + [one.look(("get", name("o"), "x"))], want)
        one.go()
        self.assertEqual(one.event(), ("ended",))

    def test_sharing_is_kept(self):
        one = session("let a = []", "let b = [a, a]", "let n = 0", "while (n < 100)", "  set n = (n + 1)", "add a, 1", "say b[1]",
                      "say (a == b[0])")
        one.go()
        for _ in range(150):
            one.back()
        one.go()
        self.assertEqual(one.said(), ["[1]", "yes"])

    def test_many_in_a_row(self):
        one = session(*ENDLESS)
        self.assertRaises(TooMany, one.go)
        end = whole(one)
        for many in range(3000, 0, -1):
            self.assertEqual(len(one), many)
            one.back()
        self.assertEqual(whole(one), whole(session(*ENDLESS)))
        self.assertRaises(NoBack, one.back)
        self.assertRaises(TooMany, one.go)
        self.assertEqual(whole(one), end)

    def test_many_in_a_row_with_looks(self):
        one = session(*ENDLESS)
        self.assertRaises(TooMany, one.go)
        for many in range(2999, 2000, -1):
            one.back()
            # Behind the let, the while, the set and the say follow each other.
            self.assertEqual(one.path(), [(1, 0, 1), (1,), (1, 0, 0)][many % 3])
            self.assertEqual(one.look(name("n")), ("value", str(many // 3)))
            self.assertEqual(len(one.said()), (many - 1) // 3)

    def test_few_steps_are_led_anew(self):
        for rows, most in ((ENDLESS, 60), (["let a = []", "while yes", "  set a = [a]"], 1600)):
            one = session(*rows)
            self.assertRaises(TooMany, one.go)
            with unittest.mock.patch.object(Machine, "step", autospec=True, side_effect=Machine.step) as step:
                for _ in range(100):
                    one.back()
                    one.path()
            self.assertLess(step.call_count, 100 * most)

    def test_growing_things(self):
        one = session("let a = []", "while yes", "  set a = [a]")
        self.assertRaises(TooMany, one.go)
        self.assertEqual(len(one.shape()[1]), 1501)
        for many in range(2999, 0, -1):
            one.back()
            if many % 250 == 0:
                self.assertEqual(len(one.shape()[1]), (many - 1) // 2 + 2)
        self.assertEqual(one.look(name("a")), ("value", "[]"))

    def test_over_exchanges(self):
        one = led("let a = no", "def f()", "  say 1", "while (not a)", "  ask a 'q'", "  call f()")
        other = led("let a = no", "def f()", "  say 1", "while (not a)", "  ask a 'q'", "  call f()")
        one.exchange((1, 0), [say(2)])
        one.exchange((1, 0), [say(3)])
        one.answer(False)
        one.go()
        one.exchange((1, 0), [say(4)])
        self.assertEqual([program.body((1, 0)) for program in one.moment().programs()], [[say(1)], [say(2)], [say(3)], [say(4)]])
        one.back()
        self.assertEqual(len(one.moment().programs()), 3)
        one.answer(False)
        self.assertEqual((one.go(), one.said()), (["3"], ["3", "3"]))
        for _ in range(2 * 4 + 1):
            one.back()
        self.assertEqual(len(one.moment().programs()), 2)
        one.answer(False)
        self.assertEqual(one.go(), ["2"])
        for _ in range(5):
            one.back()
        self.assertTrue(one.same_as(other))
        self.assertEqual(len(one), len(other))
        one.answer(False)
        self.assertEqual(one.go(), ["1"])

    def test_no_back(self):
        for one in (session(*ASKS), session(""), session("ask a 'q'")):
            before = whole(one)
            self.assertRaises(NoBack, one.back)
            self.assertEqual(whole(one), before)


class Looks(unittest.TestCase):
    def test_values(self):
        one = led("let a = 7", "let l = [1, 'x', []]", "let t = {1: a}", "class k", "  def m(s)", "let o = call k()", "ask a 'q'")
        for e, words in ((name("a"), "7"), (num(3), "3"), (text("a b"), "a b"), (YES, "yes"), (("none",), "none"),
                         (("op", "+", name("a"), num(1)), "8"), (("op", "-", num(1), name("a")), "-6"), (name("l"), "[1, 'x', []]"),
                         (name("t"), "{1: 7}"), (("list", [name("l"), text("a")]), "[[..], 'a']"), (("len", name("l")), "3"),
                         (("table", [(num(1), name("l"))]), "{1: [..]}"), (("kind", name("o")), "object"), (name("k"), "<class>"),
                         (("get", name("o"), "m"), "<function>"), (("at", name("l"), num(1)), "x"),
                         (("not", ("op", "==", name("l"), name("l"))), "no"), (("op", "or", YES, name("nobody")), "yes")):
            self.assertEqual(one.look(e), ("value", words))

    def test_errors(self):
        one = led("let a = 7", "let l = []", "class k", "let o = call k()", "ask a 'q'")
        deep = ("text", "abcdefghijklmnopqrst")
        for e, words in ((name("b"), "unset"), (("not", name("a")), "kind"), (("at", name("l"), num(0)), "range"),
                         (("at", ("table", []), num(0)), "key"), (("get", name("o"), "x"), "field"), (("get", name("k"), "x"), "field"),
                         (("op", "*", ("op", "*", num(999), num(999)), ("op", "*", num(999), num(999))), "great"),
                         (("op", "+", ("op", "+", deep, deep), ("op", "+", deep, deep)), "great"),
                         (("table", [(("list", []), num(1))]), "kind"), (("op", "and", YES, num(1)), "kind")):
            self.assertEqual(one.look(e), ("error", words))

    def test_above(self):
        rows = ["let a = no", "class k", "  def m(s)", "    say 1", "class j over k", "  def m(s)", "    ask a 'm'", "  def n(s)",
                "    let s = 1", "    ask a 'n'", "  def o(s, t)", "    ask a 'o'", "def f(s)", "  ask a 'f'", "let o = call j()",
                "ask a 'top'", "call o.m()", "call f(o)", "call j.o(o, 1)", "call j.o(1, o)", "call o.n()", "ask a 'end'"]
        one = led(*rows)
        found = {}
        while one.event()[0] == "ask":
            looked = [one.look(("above", word)) for word in ("m", "n")]
            found.setdefault(one.event()[1], []).append(looked)
            one.answer(True)
            one.go()
        none = [("error", "field")] * 2
        method = [("value", "<function>"), ("error", "field")]
        kind = [("error", "kind")] * 2
        self.assertEqual(found, {"top": [none], "m": [method], "f": [none], "o": [method, kind], "n": [kind], "end": [none]})
        # A class without one over it.
        one = led("let a = no", "class k", "  def m(s)", "    ask a 'q'", "let o = call k()", "call o.m()")
        self.assertEqual(one.look(("above", "m")), ("error", "field"))
        self.assertEqual(one.look(("list", [("above", "m")])), ("error", "field"))
        # A function within a method has no class, whatever its parameter is.
        one = led("let a = no", "class k", "class j over k", "  def m(s)", "    def f(x)", "      ask a 'q'", "    call f(1)",
                  "let o = call j()", "call o.m()")
        self.assertEqual(one.look(("above", "m")), ("error", "field"))

    def test_in_the_newest_frame(self):
        one = session("let a = 1", "def f(a)", "  let b = 2", "  say [a, b]", "call f('x')", "say a")
        found = []
        while one.event() == ("ahead",):
            found.append((one.path(), one.look(name("a")), one.look(name("b"))))
            one.step()
        a, b, unset = ("value", "x"), ("value", "2"), ("error", "unset")
        one = ("value", "1")
        self.assertEqual(found, [((0,), unset, unset), ((1,), one, unset), ((2,), one, unset), ((1, 0, 0), a, unset),
                                 ((1, 0, 1), a, b), ((3,), one, unset)])

    def test_nothing_changes(self):
        one = led("let l = [1]", "let t = {1: 2}", "class k", "let o = call k()", "ask a 'q'")
        before = whole(one)
        e = ("list", [("list", [name("l")]), ("table", [(num(1), name("t")), (num(1), num(3))]), name("o")])
        for _ in range(3):
            self.assertEqual(one.look(e), ("value", "[[..], {..}, <object>]"))
            self.assertEqual(whole(one), before)
        self.assertEqual(e, ("list", [("list", [name("l")]), ("table", [(num(1), name("t")), (num(1), num(3))]), name("o")]))

    def test_no_expression(self):
        deep = num(1)
        for _ in range(4):
            deep = ("not", deep)
        for state, one in states().items():
            before = whole(one)
            for e in [None, 1, "a", [], (), ("name",), ("name", "make up"), ("name", "yes"), ("number", 1000), ("number", -1),
                      ("number", True), ("text", "A"), ("list", [1]), ("list", [num(1)] * 5), ("list", (num(1),)), ("say", num(1)),
                      ("op", "/", num(1), num(1)), ("op", "+", num(1)), ["name", "a"], ("table", [(num(1),)]), ("not", deep),
                      ("above", "at"), ("yes", 1), one, (("yes",),), {"a": 1}]:
                if state in ("ahead", "ask"):
                    self.assertRaises(NoExpression, one.look, e)
                else:
                    self.assertRaises(Over, one.look, e)
            if state in ("ahead", "ask"):
                self.assertEqual(one.look(deep), ("error", "kind"))
            else:
                self.assertRaises(Over, one.look, deep)
            self.assertEqual(whole(one), before)


class Moments(unittest.TestCase):
    def test_at_a_question(self):
        one = led(*ASKS)
        moment = one.moment()
        self.assertIsInstance(moment, Moment)
        self.assertTrue(moment == at(lines(*ASKS)))
        self.assertEqual((moment.event(), moment.shape()), (one.event(), one.shape()))
        self.assertEqual(moment.answered(True)[0], ["yes"])
        # What becomes of the moment does nothing to the session, and the other way round.
        self.assertEqual(one.event(), ("ask", "q"))
        one.answer(False)
        self.assertEqual(moment.value("a"), "no")
        self.assertEqual(moment.event(), ("ask", "q"))

    def test_at_an_end(self):
        for rows, event in ((["say 1"], ("ended",)), (["raise [1]"], ("failed", "[1]")), ([""], ("ended",))):
            moment = led(*rows).moment()
            self.assertEqual((moment.event(), moment.shape(), moment.value("a")), (event, NOWHERE, None))
            self.assertTrue(moment == at(lines(*rows)))

    def test_ahead_of_a_statement(self):
        one = session(*ASKS)
        self.assertRaises(NotAsked, one.moment)
        one.step()
        self.assertRaises(NotAsked, one.moment)
        one.step()
        one.moment()
        one.answer(True)
        self.assertRaises(NotAsked, one.moment)

    def test_as_answered_tells(self):
        rows = lines("let a = no", "def f(n)", "  ask a 'q'", "  if (n < 3)", "    say call f((n + 1))", "  give a", "call f(0)")
        one = session(rows)
        said, moment = start(read(rows))
        self.assertEqual(one.go(), said)
        for answer in (True, False, True, True):
            self.assertTrue(one.moment() == moment)
            said, moment = moment.answered(answer)
            self.assertEqual(one.answer(answer) + one.go(), said)
        self.assertTrue(one.moment() == moment)
        self.assertEqual(one.event(), ("ended",))

    def test_a_run_that_goes_on_for_ever(self):
        """The moment is told of as ever by start alone."""
        self.assertEqual(at("while yes").event(), ("ever", []))
        one = session("while yes")
        self.assertRaises(TooMany, one.go)
        self.assertRaises(NotAsked, one.moment)

    def test_not_by_28(self):
        """A run with more than 3000 statements between two questions, led by several calls of go."""
        one = session(*counted(2000), "ask m 'q'")
        self.assertRaises(TooMany, start, read(lines(*counted(2000), "ask m 'q'")))
        self.assertRaises(TooMany, one.go)
        one.go()
        self.assertEqual(one.moment().value("n"), "2000")
        one.answer(True)
        self.assertEqual(one.moment().event(), ("ended",))


class Exchange(unittest.TestCase):
    ROWS = ["let a = no", "def f()", "  say 1", "while (not a)", "  ask a 'q'", "  call f()"]

    def test_as_exchanged_tells(self):
        one = led(*self.ROWS)
        moment = one.moment()
        said, many = one.said(), len(one)
        self.assertIsNone(one.exchange((1, 0), [say(2)]))
        self.assertEqual((len(one), one.said(), one.event(), one.path()), (many + 1, said, ("ask", "q"), (2, 0, 0)))
        self.assertTrue(one.moment() == exchanged(moment, (1, 0), [say(2)]))
        self.assertEqual(one.shape(), exchanged(moment, (1, 0), [say(2)]).shape())
        one.answer(False)
        self.assertEqual(one.go(), ["2"])
        self.assertTrue(one.moment() == exchanged(moment, (1, 0), [say(2)]).answered(False)[1])

    def test_paths_and_codes_by_edition(self):
        one = led("let a = no", "def f()", "  if yes", "    def g()", "      ask a 'g'", "    call g()", "  say 'f'", "call f()", "call f()")
        self.assertEqual(one.codes(), [(), (1, 0), (1, 0, 0, 0, 0, 0)])
        one.exchange((1, 0), [("def", "h", [], [("ask", "a", "h")]), ("call", "drop", None, name("h"), [])])
        self.assertEqual((one.codes(), one.path()), ([(), (1, 0), (1, 0, 0, 0, 0, 0)], (1, 0, 0, 0, 0, 0, 0)))
        one.answer(True)
        self.assertEqual(one.path(), (1, 0, 1))
        self.assertEqual(one.go(), ["f"])
        self.assertEqual((one.codes(), one.path()), ([(), (1, 0), (1, 0, 0, 0)], (1, 0, 0, 0, 0)))

    def test_the_block_may_change_later(self):
        one = led(*self.ROWS)
        inner = [say(2)]
        block = [("if", YES, inner, [])]
        one.exchange((1, 0), block)
        inner.append(say(3))
        block.clear()
        one.answer(False)
        self.assertEqual(one.go(), ["2"])
        # Also when these steps are taken back and taken again.
        for _ in range(3):
            one.back()
        self.assertEqual((one.said(), one.go()), ([], ["2"]))

    def test_not_asked(self):
        for state, one in states().items():
            if state == "ask":
                continue
            before = whole(one)
            for code in NOTHING + [(), (0, 0)]:
                for block in ([], None, [1]):
                    self.assertRaises(NotAsked, one.exchange, code, block)
            self.assertEqual(whole(one), before)
        one = session(*self.ROWS)
        one.step()
        one.step()
        self.assertRaises(NotAsked, one.exchange, (1, 0), [])
        self.assertRaises(NotAsked, led(*self.ROWS, answers=[True]).exchange, (1, 0), [])

    def test_refused(self):
        one = led(*self.ROWS)
        before, moment = whole(one), one.moment()
        for code in NOTHING + [(), (0, 0), (1,), (2, 0), (1, 0, 0, 0)]:
            for block in ([], None, [1]):
                self.assertRaises(NoCode, one.exchange, code, block)
        for block, path in ((None, (1,)), ((), (1,)), ("x", (1,)), ([1], (1, 0, 0)), ([say(), ("leave",)], (1, 0, 1))):
            with self.assertRaises(NoProgram) as caught:
                one.exchange((1, 0), block)
            self.assertEqual(caught.exception.path, path)
        self.assertEqual(whole(one), before)
        self.assertTrue(one.moment() == moment)
        one.answer(False)
        self.assertEqual(one.go(), ["1"])

    def test_not_both(self):
        """A code of an older edition only, and one of the newest only."""
        one = led(*self.ROWS)
        one.exchange((1, 0), [("def", "g", [], []), say(1)])
        one.exchange((1, 0, 0, 0), [say(5)])
        one.exchange((1, 0), [])
        self.assertRaises(NoCode, one.exchange, (1, 0, 0, 0), [])
        one.back()
        one.exchange((1, 0, 0, 0), [])
        self.assertEqual(len(one.moment().programs()), 4)


class Tried(unittest.TestCase):
    ROWS = ["let a = no", "def f()", "  say 1", "let l = []", "while (len(l) < 3)", "  ask a 'q'", "  add l, a", "  call f()"]

    def test_what_is_returned(self):
        one = led(*self.ROWS)
        before = whole(one)
        thing = [1]
        self.assertIs(one.tried(lambda session: thing), thing)
        self.assertIsNone(one.tried(lambda session: None))
        self.assertIs(one.tried(lambda session: session), one)
        self.assertEqual(whole(one), before)

    def test_put_back(self):
        one = led(*self.ROWS, answers=[True])

        def action(session):
            session.exchange((1, 0), [say(2)])
            session.answer(False)
            said = session.go()
            session.answer(True)
            return said + session.go(), whole(session)

        before, moment = whole(one), one.moment()
        said, there = one.tried(action)
        self.assertEqual((said, there[0], there[5]), (["2", "2"], ("ended",), before[5] + 11))
        self.assertEqual(whole(one), before)
        self.assertTrue(one.moment() == moment)
        # And the same again, with the same result.
        self.assertEqual(one.tried(action), (said, there))
        one.answer(False)
        self.assertEqual(one.go(), ["1"])

    def test_in_each_state(self):
        for state, one in states().items():
            before = whole(one)
            self.assertEqual(one.tried(whole), before)
            self.assertEqual(one.tried(lambda session: session.go()), ["1"] if state == "ahead" else [])
            self.assertEqual(whole(one), before)
            self.assertEqual(one.tried(len), before[5])
            while len(one):
                one.back()
            self.assertEqual(one.said(), [])

    def test_an_error_goes_on(self):
        one = led(*self.ROWS)
        before = whole(one)
        for error in (ValueError, AnswerError, KeyError, ZeroDivisionError, KeyboardInterrupt, RuntimeError, StopIteration):
            raised = error("x")

            def action(session):
                session.answer(True)
                session.go()
                raise raised

            with self.assertRaises(error) as caught:
                one.tried(action)
            self.assertIs(caught.exception, raised)
            self.assertEqual(whole(one), before)
        self.assertRaises(Waiting, one.tried, lambda session: session.step())
        self.assertRaises(NoAnswer, one.tried, lambda session: (session.answer(True), session.answer(1)))
        self.assertRaises(TypeError, one.tried, lambda: 0)
        self.assertEqual(whole(one), before)

    def test_go_that_raises(self):
        one = session(*ENDLESS)
        one.step()
        self.assertRaises(TooMany, one.tried, lambda session: session.go())
        self.assertEqual((len(one), one.said()), (1, []))
        self.assertRaises(TooMany, one.go)
        before = whole(one)
        self.assertRaises(TooMany, one.tried, lambda session: session.go())
        self.assertEqual(whole(one), before)

    def test_back_beyond_the_beginning(self):
        one = led(*self.ROWS, answers=[True])
        before = whole(one)

        def action(session):
            while len(session) > 0:
                session.back()
            self.assertRaises(NoBack, session.back)
            session.go()
            session.answer(False)
            return whole(session)

        there = one.tried(action)
        self.assertEqual(whole(one), before)
        other = led(*self.ROWS)
        other.answer(False)
        self.assertEqual(there, whole(other))
        # What could be taken back still can.
        for _ in range(5):
            one.back()
        self.assertEqual((one.event(), one.said()), (("ask", "q"), []))

    def test_from_an_end_back(self):
        for rows in (["say 1", "say 2"], ["say 1", "raise 2"]):
            one = led(*rows)
            before = whole(one)
            self.assertEqual(one.tried(lambda session: (session.back(), session.path(), session.go())[1:]),
                             ((1,), ["2"] if rows[1] == "say 2" else []))
            self.assertEqual(whole(one), before)

    def test_within_one_another(self):
        one = led(*self.ROWS)
        before = whole(one)

        def inner(session):
            session.answer(True)
            there = whole(session)
            session.back()
            session.back()
            return there

        def action(session):
            session.exchange((1, 0), [])
            here = whole(session)
            there = session.tried(inner)
            self.assertEqual(whole(session), here)
            self.assertRaises(Stop, session.tried, stop)
            self.assertEqual(whole(session), here)
            session.back()
            self.assertEqual(whole(session), before)
            session.answer(False)
            return there

        class Stop(Exception):
            pass

        def stop(session):
            session.tried(inner)
            session.answer(True)
            raise Stop()

        there = one.tried(action)
        self.assertEqual((there[0], there[5]), (("ahead",), before[5] + 2))
        self.assertEqual(whole(one), before)

    def test_a_deep_row_of_them(self):
        one = led(*self.ROWS)
        before = whole(one)

        def action(session, many=40):
            if many == 0:
                return whole(session)
            if session.event() == ("ahead",):
                session.step()
            elif session.event()[0] == "ask":
                session.answer(True)
            return session.tried(lambda inner: action(inner, many - 1))

        self.assertEqual(one.tried(action)[0], ("ended",))
        self.assertEqual(whole(one), before)


class Same(unittest.TestCase):
    def check(self, one, other, want):
        self.assertIs(one.same_as(other), want)
        self.assertIs(other.same_as(one), want)
        self.assertIs(one.same_as(one), True)

    def test_the_same(self):
        self.check(session(*ASKS), session(*ASKS), True)
        self.check(led(*ASKS), led(*ASKS), True)
        self.check(led(*ASKS, answers=[True]), led(*ASKS, answers=[True]), True)
        self.check(session(""), session(""), True)
        # By other ways: how many steps there were, and whether things were, is nothing to it.
        self.check(led("while yes", "  ask a 'q'"), led("while yes", "  ask a 'q'"), True)
        one, other = led("let a = 1", "while yes", "  ask a 'q'"), led("let a = 1", "while yes", "  ask a 'q'")
        one.answer(True)
        one.go()
        self.check(one, other, False)
        one.answer(False)
        one.go()
        other.answer(False)
        other.go()
        self.assertNotEqual(len(one), len(other))
        self.check(one, other, True)

    def test_shapes(self):
        one, other = led(*ASKS), led(*ASKS)
        other.answer(True)
        self.check(one, other, False)
        self.check(led("let a = 1", "ask a 'q'", answers=[]), led("let a = 2", "ask a 'q'"), False)

    def test_words(self):
        """Equal moments behind other words."""
        rows = ["let a = no", "while yes", "  ask a 'q'", "  say a", "  set a = no"]
        one, other = led(*rows, answers=[True]), led(*rows, answers=[False])
        self.assertTrue(one.moment() == other.moment())
        self.check(one, other, False)
        self.check(led(*rows, answers=[True, False]), led(*rows, answers=[False, True]), False)
        one, other = led(*rows, answers=[True, False]), led(*rows, answers=[True, False])
        self.check(one, other, True)

    def test_events(self):
        """Ends with the same words said, and the same program."""
        rows = ["let a = no", "ask a 'q'", "if a", "  raise 1"]
        self.check(led(*rows, answers=[True]), led(*rows, answers=[False]), False)
        rows = ["let a = no", "ask a 'q'", "raise a"]
        self.check(led(*rows, answers=[True]), led(*rows, answers=[False]), False)
        self.check(led(*rows, answers=[True]), led(*rows, answers=[True]), True)

    def test_editions(self):
        rows = ["let a = no", "def f()", "  say 1", "ask a 'q'"]
        one, other = led(*rows, answers=[True]), led(*(rows + ["let b = 1"]), answers=[True])
        self.assertEqual((one.shape(), one.event(), one.said()), (other.shape(), other.event(), other.said()))
        self.check(one, other, False)
        one, other = led(*rows), led(*rows)
        one.exchange((1, 0), [say(1)])
        self.check(one, other, False)
        other.exchange((1, 0), [say(2)])
        self.check(one, other, False)
        other.back()
        other.exchange((1, 0), [say(1)])
        self.check(one, other, True)
        one.back()
        other.back()
        self.check(one, other, True)

    def test_nothing_changes(self):
        one, other = led(*ASKS), session(*ASKS)
        before = whole(one), whole(other)
        self.check(one, other, False)
        self.assertEqual((whole(one), whole(other)), before)


class Others(unittest.TestCase):
    def test_the_program_may_be_used_again(self):
        program = read(lines(*ASKS))
        block = program.block()
        one, other = Session(program), Session(program)
        one.go()
        one.answer(True)
        self.assertEqual(len(other), 0)
        self.assertEqual(program.block(), block)
        self.assertEqual(events(program, [True]), [("say", "1"), ("ask", "q"), ("say", "yes"), ("ended",)])

    def test_as_events_tell(self):
        rows = lines("let a = no", "let n = 0", "while (n < 4)", "  ask a 'more'", "  if a", "    say n", "  set n = (n + 1)", "raise n")
        for answers in ([True] * 4, [False] * 4, [True, False, True, False]):
            one = session(rows)
            told = [("say", words) for words in one.go()]
            for answer in answers:
                told.append(one.event())
                told += [("say", words) for words in one.answer(answer) + one.go()]
            self.assertEqual(told + [one.event()], events(read(rows), answers))

    def test_no_lists_are_shared(self):
        one = led("say 1", "ask a 'q'")
        for told in (one.said(), one.codes(), one.shape(), one.event()):
            self.assertEqual(lists_in(told), [told] if isinstance(told, list) else [])

    def test_deep_runs(self):
        rows = ["let a = no", "def f(n)", "  if (n < 18)", "    try", "      call f((n + 1))", "    last", "      say n", "  else",
                "    ask a 'q'", "    raise 'x'", "call f(0)"]
        one = led(*rows)
        self.assertEqual(one.codes(), [()] + [(1, 0)] * 19)
        one.answer(True)
        self.assertEqual((one.go(), one.event()), ([str(n) for n in range(17, -1, -1)], ("failed", "x")))

    def test_a_program_of_a_rewriting(self):
        one = Session(Program([("while", YES, [say(1), ("leave",)])]))
        self.assertEqual((one.go(), one.event()), (["1"], ("ended",)))


if __name__ == "__main__":
    unittest.main()
