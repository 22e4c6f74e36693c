"""Blocks that are exchanged while a program runs: points [39] and [40], and editions in [24] to [26], [29] and [33]."""

import unittest

from helping import NOTHING, YES, at, counted, lines, lists_in, many_of, name, say, text

from everyanswer.errors import NoCode, NoProgram, NotAsked, TooMany
from everyanswer.exchange import exchanged, safe
from everyanswer.graphs import graph
from everyanswer.likeness import alike, apart_fault, kinds, relation_fault
from everyanswer.moments import Moment, start
from everyanswer.programs import Program
from everyanswer.texts import read

ENDS = ("", "say 1", "raise 1", "while yes")


def block(*rows):
    """The block of these lines."""
    return read(lines("class k", "  def m(s)", "    while yes", *["      " + row for row in rows])).body((0, 0))[0][2]


def told(moment, answers):
    """All that is said behind these answers, and the event."""
    out = []
    for answer in answers:
        said, moment = moment.answered(answer)
        out += said
    return out, moment.event()


def frames(moment):
    """The editions of the frames, the bottom one first."""
    return [frame[0] for frame in moment.shape()[0]]


def functions(moment):
    """The editions of the functions by their codes."""
    return {thing[2]: thing[1] for thing in moment.shape()[1] if thing[0] == "function"}


class Parts(unittest.TestCase):
    """The new moment part by part."""

    def test_one_function(self):
        moment = at("let a = no\ndef f()\n  say 'old'\nask a 'q'\ncall f()")
        found = exchanged(moment, (1, 0), [say(7)])
        self.assertIsInstance(found, Moment)
        self.assertEqual(found.event(), ("ask", "q"))
        self.assertEqual(found.shape(), (((1, (2,), 0, (), None, None),),
                                         (("scope", None, (("a", ("no",)), ("f", ("thing", 1)))), ("function", 1, (1, 0), 0, None))))
        one, other = found.programs()
        self.assertEqual(one.block(), moment.programs()[0].block())
        self.assertEqual(other.block(), [("let", "a", ("no",)), ("def", "f", [], [say(7)]), ("ask", "a", "q"),
                                         ("call", "drop", None, name("f"), [])])
        self.assertEqual(found.value("a"), "no")
        self.assertEqual(found.value("f"), "<function>")

    def test_it_is_another_moment(self):
        moment = at("let a = no\ndef f()\n  say 'old'\nask a 'q'\ncall f()")
        body = moment.programs()[-1].body((1, 0))
        same = exchanged(moment, (1, 0), body)
        self.assertFalse(same == moment)
        self.assertTrue(same == exchanged(moment, (1, 0), body))
        self.assertFalse(same == exchanged(moment, (1, 0), []))
        self.assertFalse(exchanged(same, (1, 0), body) == same)
        # Without functions, the frame alone has another edition.
        self.assertEqual(frames(exchanged(at("ask a 'q'\ndef f()"), (1, 0), [])), [1])

    def test_editions_alone_tell_apart(self):
        """Shapes and events are equal where only what is not come to any more differs."""
        moment = at("let a = no\ndef f()\nlet f = 1\nask a 'q'")
        one, other = exchanged(moment, (1, 0), [say(1)]), exchanged(moment, (1, 0), [say(2)])
        self.assertEqual((one.shape(), one.event()), (other.shape(), other.event()))
        self.assertFalse(one == other)
        self.assertEqual(one.programs()[0], other.programs()[0])

    def test_the_given_moment_stays(self):
        moment = at("let a = no\ndef f()\n  say 'old'\nask a 'q'\ncall f()")
        before = (moment.shape(), moment.event(), [program.block() for program in moment.programs()])
        body = [("if", YES, [say(1)], [])]
        found = exchanged(moment, (1, 0), body)
        after = (found.shape(), found.event(), [program.block() for program in found.programs()])
        for part in lists_in(body):
            part.clear()
        found.programs().clear()
        moment.programs().clear()
        self.assertEqual((moment.shape(), moment.event(), [program.block() for program in moment.programs()]), before)
        self.assertEqual((found.shape(), found.event(), [program.block() for program in found.programs()]), after)
        self.assertEqual(told(moment, [True]), (["old"], ("ended",)))
        self.assertEqual(told(found, [True]), (["1"], ("ended",)))

    def test_what_is_handed_in_stays(self):
        body = [("if", YES, [say(1)], []), ("try", [], None, [], [say(2)])]
        kept = Program(body).block()
        exchanged(at("let a = no\ndef f()\nask a 'q'"), (1, 0), body)
        self.assertEqual(body, kept)


class Editions(unittest.TestCase):
    """Which frames and functions get the new edition."""

    # Codes: f (1, 0), g in it (1, 0, 0, 0), h in that (1, 0, 0, 0, 0, 0); k's m (2, 0) and n (2, 1), w in m (2, 0, 0, 0).
    ROWS = lines("let a = no", "def f(x)", "  def g(y)", "    def h(z)", "      ask a 'h'", "      give z", "    ask a 'g'",
                 "    if a", "      call h(h)", "    give h", "  let i = call g(g)", "  ask a 'f'", "  give i", "class k",
                 "  def m(s)", "    def w()", "    ask a 'm'", "    give w", "  def n(s)", "    ask a 'n'",
                 "let o = call k()", "let b = o.n", "let j = call f(f)", "let w = call o.m()", "call b()", "ask a 'top'")
    F, G, H, M, N, W = (1, 0), (1, 0, 0, 0), (1, 0, 0, 0, 0, 0), (2, 0), (2, 1), (2, 0, 0, 0)
    EVENTS = ["g", "h", "f", "m", "n", "top"]

    def moment(self, event):
        _, moment = start(read(self.ROWS))
        for known in self.EVENTS:
            self.assertEqual(moment.event(), ("ask", known))
            if known == event:
                return moment
            _, moment = moment.answered(True)

    def check(self, event, code, in_frames, in_functions):
        moment = self.moment(event)
        found = exchanged(moment, code, [say(1)])
        self.assertEqual(frames(found), in_frames)
        # Those that are told as 1, and no others, get the new edition.
        self.assertEqual(functions(moment), dict.fromkeys(in_functions, 0))
        self.assertEqual(functions(found), in_functions)
        self.assertEqual([frame[1:] for frame in found.shape()[0]], [frame[1:] for frame in moment.shape()[0]])
        self.assertEqual(len(found.shape()[1]), len(moment.shape()[1]))

    def test_at_the_top(self):
        whole = {self.F: 1, self.H: 1, self.G: 1, self.M: 1, self.N: 1, self.W: 1}
        self.check("top", self.F, [1], {**whole, self.G: 0, self.H: 0})
        self.check("top", self.G, [1], {**whole, self.H: 0})
        self.check("top", self.H, [1], whole)
        self.check("top", self.M, [1], {**whole, self.W: 0})
        self.check("top", self.N, [1], whole)
        self.check("top", self.W, [1], whole)

    def test_within_a_function(self):
        known = {self.F: 1, self.G: 1, self.H: 1, self.M: 1, self.N: 1}
        self.check("h", self.F, [1, 0, 0, 0], {**known, self.G: 0, self.H: 0})
        self.check("h", self.G, [1, 1, 0, 0], {**known, self.H: 0})
        self.check("h", self.H, [1, 1, 1, 0], known)
        self.check("h", self.M, [1, 1, 1, 1], known)
        self.check("f", self.F, [1, 0], {**known, self.G: 0, self.H: 0})
        self.check("f", self.G, [1, 1], {**known, self.H: 0})
        self.check("f", self.H, [1, 1], known)
        self.check("g", self.F, [1, 0, 0], {**known, self.G: 0, self.H: 0})

    def test_within_a_method(self):
        known = {self.F: 1, self.G: 1, self.H: 1, self.M: 1, self.N: 1, self.W: 1}
        self.check("m", self.M, [1, 0], {**known, self.W: 0})
        self.check("m", self.N, [1, 1], known)
        self.check("m", self.W, [1, 1], known)
        self.check("n", self.M, [1, 1], {**known, self.W: 0})
        self.check("n", self.N, [1, 0], known)

    def test_older_ones_stay(self):
        moment = self.moment("h")
        once = exchanged(moment, self.G, [say(1)])
        self.assertEqual((frames(once), functions(once)[self.H], functions(once)[self.G]), ([1, 1, 0, 0], 0, 1))
        twice = exchanged(once, self.N, [say(1)])
        self.assertEqual(frames(twice), [2, 2, 0, 0])
        self.assertEqual(functions(twice), {self.F: 2, self.G: 2, self.H: 0, self.M: 2, self.N: 2})
        thrice = exchanged(twice, self.F, [say(1)])
        self.assertEqual(frames(thrice), [3, 2, 0, 0])
        self.assertEqual(functions(thrice), {self.F: 3, self.G: 2, self.H: 0, self.M: 3, self.N: 3})
        self.assertEqual(len(thrice.programs()), 4)
        self.assertRaises(NoCode, exchanged, thrice, self.G, [])

    def test_codes_with_a_like_beginning(self):
        """Codes of later statements, and of statements within an if, are not within."""
        rows = lines("let a = no", "def f()", "  say 1", "if yes", "  def g()", "    say 2", "class k", "  def m(s)", "    say 3",
                     "  def n(s)", "    say 4", "ask a 'q'")
        moment = at(rows)
        codes = moment.programs()[0].codes()
        self.assertEqual(codes, [(), (1, 0), (2, 0, 0, 0), (3, 0), (3, 1)])
        for code in codes[1:]:
            self.assertEqual(functions(exchanged(moment, code, [])), dict.fromkeys(codes[1:], 1))

    def test_all_that_holds_functions(self):
        """Functions are found in lists, fields, classes and bound functions."""
        moment = at(lines("let a = no", "def f()", "let l = [f]", "let t = {1: l}", "class k", "  def m(s)", "let o = call k()",
                          "put o.x = f", "let b = o.m", "let f = none", "ask a 'q'"))
        found = exchanged(moment, (1, 0), [])
        self.assertEqual(functions(found), {(1, 0): 1, (4, 0): 1})
        self.assertEqual([thing[0] for thing in found.shape()[1]], [thing[0] for thing in moment.shape()[1]])

    def test_new_functions_have_the_edition_of_the_frame(self):
        moment = at(lines("let a = no", "def f(l)", "  ask a 'f'", "  def g()", "  class c", "    def m(s)", "  add l, g", "  add l, c",
                          "let l = []", "call f(l)", "call f(l)"))
        found = exchanged(moment, (1, 0), block("ask a 'new'", "def g()", "  say 1", "add l, g"))
        self.assertEqual(frames(found), [1, 0])
        _, later = found.answered(True)
        # The old frame has ended with functions of the old edition; the new one stands at its question.
        self.assertEqual(frames(later), [1, 1])
        self.assertEqual(later.event(), ("ask", "new"))
        self.assertEqual(functions(later), {(1, 0): 1, (1, 0, 1, 0): 0, (1, 0, 2, 0): 0})
        later = exchanged(later, (1, 0), [])
        self.assertEqual((frames(later), functions(later)), ([2, 1], {(1, 0): 2, (1, 0, 1, 0): 0, (1, 0, 2, 0): 0}))


class Runs(unittest.TestCase):
    """What is executed behind an exchange."""

    def test_later_calls_execute_the_new_block(self):
        moment = at("let a = no\ndef f(x)\n  say ['old', x]\n  give 1\nask a 'q'\nsay call f(5)\nsay call f(6)")
        found = exchanged(moment, (1, 0), block("say ['new', x]"))
        self.assertEqual(told(moment, [True]), (["['old', 5]", "1", "['old', 6]", "1"], ("ended",)))
        self.assertEqual(told(found, [True]), (["['new', 5]", "none", "['new', 6]", "none"], ("ended",)))

    def test_an_empty_block(self):
        found = exchanged(at("let a = no\ndef f()\n  raise 1\nask a 'q'\nsay call f()"), (1, 0), [])
        self.assertEqual(told(found, [True]), (["none"], ("ended",)))
        found = exchanged(at("let a = no\ndef f()\nask a 'q'\nsay call f()"), (1, 0), [("give", text("full"))])
        self.assertEqual(told(found, [True]), (["full"], ("ended",)))

    def test_old_blocks_end_as_they_were(self):
        rows = lines("let a = no", "def f(n)", "  say n", "  ask a 'old'", "  say 'behind'", "  while (n < 2)", "    set n = (n + 1)",
                     "    call f(9)", "  give 'g'", "say call f(1)", "say call f(5)")
        moment = at(rows)
        found = exchanged(moment, (1, 0), block("say ['new', n]", "ask a 'new'", "give none"))
        said, found = found.answered(True)
        self.assertEqual((said, found.event(), frames(found)), (["behind", "['new', 9]"], ("ask", "new"), [1, 0, 1]))
        said, found = found.answered(False)
        self.assertEqual((said, found.event(), frames(found)), (["g", "['new', 5]"], ("ask", "new"), [1, 1]))
        self.assertEqual(told(found, [False]), (["none"], ("ended",)))

    def test_a_frame_that_is_further_down(self):
        """The exchanged code's frame waits for a call."""
        rows = lines("let a = no", "def g()", "  ask a 'q'", "  give 3", "def f()", "  let x = call g()", "  say x", "  give call g()",
                     "say call f()", "say call f()")
        found = exchanged(at(rows), (2, 0), block("say 'new'"))
        self.assertEqual(frames(found), [1, 0, 1])
        self.assertEqual(told(found, [True, True]), (["3", "3", "new", "none"], ("ended",)))

    def test_functions_made_by_an_old_block_keep_theirs(self):
        rows = lines("let a = no", "def f()", "  def g()", "    say 'old'", "  give g", "let g = call f()", "ask a 'q'", "call g()",
                     "set g = call f()", "call g()")
        found = exchanged(at(rows), (1, 0), block("def g()", "  say 'new'", "give g"))
        self.assertEqual(told(found, [True]), (["old", "new"], ("ended",)))
        # The inner code itself, when that is exchanged.
        found = exchanged(at(rows), (1, 0, 0, 0), block("say 'inner'"))
        self.assertEqual(told(found, [True]), (["inner", "inner"], ("ended",)))

    def test_a_def_in_a_loop_that_runs(self):
        rows = lines("let a = no", "while (not a)", "  def f()", "    say 'old'", "  ask a 'q'", "  call f()")
        found = exchanged(at(rows), (1, 0, 0, 0), block("say 'new'"))
        self.assertEqual(told(found, [False, True]), (["new", "new"], ("ended",)))

    def test_methods(self):
        rows = lines("let a = no", "class k", "  def m(s)", "    say 'm'", "  def n(s)", "    call s.m()", "class j over k", "  def n(s)",
                     "    call above n()", "let o = call j()", "let b = o.m", "ask a 'q'", "call o.n()", "call b()", "let p = call j()",
                     "call p.n()")
        found = exchanged(at(rows), (1, 0), block("say ['new', s]"))
        self.assertEqual(told(found, [True]), (["['new', <object>]"] * 3, ("ended",)))
        found = exchanged(at(rows), (2, 0), block("say 'j'", "call above m()"))
        self.assertEqual(told(found, [True]), (["j", "m", "m", "j", "m"], ("ended",)))

    def test_a_make_under_way(self):
        rows = lines("let a = no", "class k", "  def make(s)", "    ask a 'make'", "    put s.a = a", "    give 7",
                     "let o = call k()", "say o.a", "let o = call k()", "say kind(o)", "say o.a")
        moment = at(rows)
        self.assertIsNotNone(moment.shape()[0][1][4])
        found = exchanged(moment, (1, 0), block("put s.a = 'new'", "give 8"))
        self.assertEqual(found.shape()[0][1][4], moment.shape()[0][1][4])
        self.assertEqual(told(found, [True]), (["yes", "object", "new"], ("ended",)))

    def test_above_behind_an_exchange(self):
        """The class of a function and its first parameter stay."""
        rows = lines("let a = no", "class k", "  def m(s)", "    give 'k'", "class j over k", "  def m(t, u)", "    ask a 'q'",
                     "    give call above m()", "let o = call j()", "say call o.m(1)", "say call o.m(2)")
        found = exchanged(at(rows), (2, 0), block("let u = call above m()", "give [u, (t == t)]"))
        self.assertEqual(told(found, [True]), (["k", "['k', yes]"], ("ended",)))

    def test_kept_ones(self):
        """An old last block is executed to its end, with what is kept for it."""
        rows = lines("let a = no", "def f()", "  try", "    give 'old'", "  last", "    ask a 'last'", "    say 'l'", "say call f()",
                     "say call f()")
        found = exchanged(at(rows), (1, 0), block("give 'new'"))
        self.assertEqual(found.shape()[0][1][3], (("give", "old"),))
        self.assertEqual(told(found, [True]), (["l", "old", "new"], ("ended",)))

    def test_errors_go_out_as_ever(self):
        rows = lines("let a = no", "def f()", "  ask a 'q'", "  raise 'old'", "try", "  call f()", "catch e", "  say e", "call f()")
        found = exchanged(at(rows), (1, 0), block("raise ['new']"))
        self.assertEqual(told(found, [True]), (["old"], ("failed", "['new']")))

    def test_deep(self):
        """Frames of several editions are counted together."""
        rows = lines("let a = no", "def f(n)", "  if (n == 9)", "    ask a 'q'", "  call f((n + 1))", "call f(1)")
        found = exchanged(at(rows), (1, 0), block("say n", "if (n == 99)", "  ask a 'q'", "call f((n + 1))"))
        said, event = told(found, [True])
        self.assertEqual((said, event), ([str(n) for n in range(10, 20)], ("failed", "deep")))

    def test_for_ever(self):
        """A while of an old edition, at a moment that comes again."""
        rows = lines("let a = no", "def f()", "  ask a 'q'", "  while a", "    call g()", "def g()", "  say 'g'", "call f()")
        found = exchanged(at(rows), (2, 0), block("say 1", "say 2"))
        self.assertEqual(told(found, [True]), ([], ("ever", ["1", "2"])))
        found = exchanged(at(rows), (1, 0), [])
        self.assertEqual(told(found, [True]), ([], ("ever", ["g"])))
        self.assertEqual(told(found, [False]), ([], ("ended",)))
        self.assertEqual(len(found.answered(True)[1].programs()), 2)

    def test_several_at_one_question(self):
        moment = at("let a = no\ndef f()\n  say 1\ndef g()\n  say 2\nask a 'q'\ncall f()\ncall g()\nask a 'r'\ncall f()\ncall g()")
        once = exchanged(moment, (1, 0), [say(3)])
        twice = exchanged(once, (2, 0), [say(4)])
        thrice = exchanged(twice, (1, 0), [say(5)])
        self.assertEqual([told(one, [True, True])[0] for one in (moment, once, twice, thrice)],
                         [["1", "2", "1", "2"], ["3", "2", "3", "2"], ["3", "4", "3", "4"], ["5", "4", "5", "4"]])
        self.assertEqual([program.body((1, 0)) for program in thrice.programs()], [[say(1)], [say(3)], [say(3)], [say(5)]])

    def test_at_later_questions(self):
        moment = at("let a = no\ndef f()\n  say 1\nwhile (not a)\n  ask a 'q'\n  call f()")
        for many in range(2, 6):
            said, moment = exchanged(moment, (1, 0), [say(many)]).answered(False)
            self.assertEqual((said, moment.event(), len(moment.programs())), ([str(many)], ("ask", "q"), many))
        self.assertEqual(told(moment, [False, True]), (["5", "5"], ("ended",)))

    def test_a_code_of_the_newest_edition(self):
        """Codes that only the new block brings."""
        moment = at("let a = no\ndef f()\n  say 1\nwhile (not a)\n  ask a 'q'\n  call f()")
        self.assertRaises(NoCode, exchanged, moment, (1, 0, 0, 0), [])
        moment = exchanged(moment, (1, 0), block("def g()", "  say 'g'", "call g()"))
        moment = exchanged(moment, (1, 0, 0, 0), block("say 'new g'"))
        self.assertEqual(told(moment, [False]), (["new g"], ("ask", "q")))
        moment = exchanged(moment, (1, 0), [say(2)])
        self.assertRaises(NoCode, exchanged, moment, (1, 0, 0, 0), [])
        self.assertEqual(told(moment, [False]), (["2"], ("ask", "q")))


class Wrong(unittest.TestCase):
    def fault(self, moment, code, body):
        with self.assertRaises(NoProgram) as caught:
            exchanged(moment, code, body)
        with self.assertRaises(NoProgram) as other:
            safe(moment, code, body)
        self.assertEqual(caught.exception.path, other.exception.path)
        return caught.exception.path

    def test_not_asked(self):
        for text_ in ENDS + ("def f()\nsay 1", "def f()\nraise 1", "def f()\nwhile yes"):
            moment = at(text_)
            for code in NOTHING + [(), (0, 0), (1, 0)]:
                for body in ([], None, [1]):
                    self.assertRaises(NotAsked, exchanged, moment, code, body)
                    self.assertRaises(NotAsked, safe, moment, code, body)

    def test_no_code(self):
        moment = at("let a = no\ndef f()\n  if a\n  say 1\nclass k\n  def m(s)\nask a 'q'")
        for code in NOTHING + [(), (0,), (1,), (2,), (0, 0), (1, 1), (2, 1), (3, 0), (1, 0, 0), (1, 0, 0, 0), (1, 0, 0, 1), (-1, 0),
                               [1, 0], (1, False), (True, 0), (1, 0, 1), (4, 0), ("1", "0"), ([1], 0), None]:
            for body in ([], None, [1], [say(1)]):
                self.assertRaises(NoCode, exchanged, moment, code, body)
                self.assertRaises(NoCode, safe, moment, code, body)

    def test_no_list(self):
        moment = at("let a = no\ndef f()\n  def g()\nif no\n  class k\n    def m(s)\n    def n(s)\nask a 'q'")
        for body in NOTHING[:13] + [(), (say(1),), moment]:
            if not isinstance(body, list):
                self.assertEqual(self.fault(moment, (1, 0), body), (1,))
                self.assertEqual(self.fault(moment, (1, 0, 0, 0), body), (1, 0, 0))
                self.assertEqual(self.fault(moment, (2, 0, 0, 0), body), (2, 0, 0))
                self.assertEqual(self.fault(moment, (2, 0, 0, 1), body), (2, 0, 0))

    def test_faults_within_the_block(self):
        moment = at("let a = no\ndef f()\n  say 1\nclass k\n  def m(s)\n  def n(s)\n    say 2\nask a 'q'")
        for body, index in (([1], 0), ([say(), ("say",)], 1), ([("leave",)], 0), ([say()] * 13, 12), ([None], 0), ([[]], 0),
                            ([say(), say(), ("say", ("number", 1000))], 2), ([("let", "make up", YES)], 0)):
            for code in ((1, 0), (2, 0), (2, 1)):
                self.assertEqual(self.fault(moment, code, body), code + (index,))
        self.assertEqual(self.fault(moment, (2, 1), [say(), ("if", YES, [say()], [say(), 7])]), (2, 1, 1, 1, 1))
        self.assertEqual(self.fault(moment, (1, 0), [("def", "g", [], [say(), ("leave",)])]), (1, 0, 0, 0, 1))

    def test_what_stands_only_in_some_codes(self):
        moment = at("let a = no\ndef f()\n  say 1\nclass k\n  def m(s)\nask a 'q'")
        exchanged(moment, (1, 0), [("give", YES)])
        exchanged(moment, (2, 0), [("give", YES), ("say", ("above", "m"))])
        self.assertEqual(self.fault(moment, (1, 0), [say(), ("say", ("above", "m"))]), (1, 0, 1))
        # A while around the def is none of the code's own.
        moment = at("let a = no\nwhile yes\n  def f()\n  ask a 'q'")
        self.assertEqual(self.fault(moment, (1, 0, 0, 0), [say(), say(), ("leave",)]), (1, 0, 0, 0, 2))

    def test_blocks_that_are_too_deep(self):
        moment = at("let a = no\nif yes\n  if yes\n    if yes\n      if yes\n        def f()\nask a 'q'")
        code = (1, 0, 0, 0, 0, 0, 0, 0, 0, 0)
        exchanged(moment, code, block("if yes", "  if yes"))
        self.assertEqual(self.fault(moment, code, block("if yes", "  if yes", "    if yes")), code + (0, 0, 0, 0, 0))

    def test_the_81st_statement(self):
        """It may stand behind the block, with its path in the new program."""
        full = [("if", YES, [say()] * 11, [])]
        program = Program([("let", "a", YES), ("def", "f", [], []), ("ask", "a", "q"), ("if", YES, full * 5, []), say(1), say(2)])
        self.assertEqual(len(program), 66)
        _, moment = start(program)
        self.assertEqual(len(exchanged(moment, (1, 0), full + [say(), say()]).programs()[1]), 80)
        self.assertEqual(self.fault(moment, (1, 0), full + [say()] * 3), (5,))
        self.assertEqual(self.fault(moment, (1, 0), full + [say()] * 4), (4,))
        # Of 90 statements, the last ten are too many.
        self.assertEqual(self.fault(moment, (1, 0), full * 2), (3, 0, 4, 0, 3))
        # A fault ahead of it is found first.
        self.assertEqual(self.fault(moment, (1, 0), full + [say()] * 3 + [1]), (1, 0, 4))
        self.assertEqual(self.fault(moment, (1, 0), full * 12 + [1]), (1, 0, 6, 0, 5))

    def test_the_moment_stays(self):
        moment = at("let a = no\ndef f()\n  say 1\nask a 'q'\ncall f()")
        before = moment.shape()
        for code, body in (((), []), ((1, 0), [1]), ((1, 0), None)):
            self.assertRaises((NoCode, NoProgram), exchanged, moment, code, body)
        self.assertEqual((moment.shape(), len(moment.programs())), (before, 1))
        self.assertEqual(told(moment, [True]), (["1"], ("ended",)))


class Safe(unittest.TestCase):
    ROWS = "let a = no\ndef f()\n  say 1\nwhile (not a)\n  ask a 'q'\n  call f()"

    def test_alike(self):
        moment = at(self.ROWS)
        self.assertEqual(safe(moment, (1, 0), [say(1)]), ("alike", [(0, 0), (1, 1)]))
        self.assertEqual(safe(moment, (1, 0), block("if yes", "  say 1")), ("alike", [(0, 0), (1, 1)]))
        self.assertEqual(safe(moment, (1, 0), block("let x = 1", "say x")), alike(moment, exchanged(moment, (1, 0), block("let x = 1", "say x"))))
        # What is not come to any more may be anything.
        moment = at("let a = no\ndef f()\n  say 1\ncall f()\nask a 'q'")
        self.assertEqual(safe(moment, (1, 0), [say(2)])[0], "alike")

    def test_apart(self):
        self.assertEqual(safe(at(self.ROWS), (1, 0), [say(2)]), ("apart", [False]))
        self.assertEqual(safe(at(self.ROWS), (1, 0), []), ("apart", [False]))
        self.assertEqual(safe(at(self.ROWS), (1, 0), block("if a", "  say 2", "else", "  say 1")), ("apart", [True]))
        rows = "let a = no\ndef f()\n  say a\nask a 'q'\nask a 'r'\ncall f()"
        self.assertEqual(safe(at(rows), (1, 0), [("say", ("no",))]), ("apart", [False, True]))

    def test_an_equal_block(self):
        for rows, code in ((self.ROWS, (1, 0)), ("let a = no\nclass k\n  def m(s)\n    ask a 'q'\n    give a\nlet o = call k()\n"
                                                 "say call o.m()\nsay call o.m()", (1, 0))):
            moment = at(rows)
            many = len(graph(moment))
            self.assertEqual(safe(moment, code, moment.programs()[-1].body(code)), ("alike", [(one, one) for one in range(many)]))

    def test_too_many(self):
        endless = block("let n = 0", "while yes", "  set n = (n + 1)")
        moment = at(self.ROWS)
        self.assertEqual(many_of(safe, moment, (1, 0), endless), 3000)
        exchanged(moment, (1, 0), endless)
        # The graph of the given moment comes first.
        self.assertEqual(many_of(safe, at(self.ROWS.replace("say 1", "set n = (n + 1)").replace("let a = no", "let n = 0\nlet a = no")),
                                 (2, 0), endless), 200)
        self.assertRaises(TooMany, safe, at(lines("let a = no", "def f()", "ask a 'q'", *counted(2998), "say 1")), (1, 0), [])

    def test_goes_on_for_ever(self):
        self.assertEqual(safe(at("let a = no\ndef f()\n  say 1\nask a 'q'\nwhile a\n  call f()"), (1, 0), [say(1), say(1)])[0], "alike")
        self.assertEqual(safe(at("let a = no\ndef f()\n  say 1\nask a 'q'\nwhile a\n  call f()"), (1, 0), [say(2)]), ("apart", [True]))


class Others(unittest.TestCase):
    """Graphs and likeness of moments with several editions."""

    def test_graphs(self):
        moment = exchanged(at("let a = no\nlet n = 0\ndef f()\n  say 1\nwhile yes\n  ask a 'q'\n  call f()"), (2, 0),
                           block("set n = (1 - n)", "let a = no", "say n"))
        rows = graph(moment)
        self.assertEqual([behind for _, behind in rows], [[(["1"], 1), (["1"], 2)], [(["0"], 0), (["0"], 3)],
                                                          [(["0"], 0), (["0"], 3)], [(["1"], 1), (["1"], 2)]])
        self.assertTrue(all(len(node.programs()) == 2 for node, _ in rows))
        self.assertEqual(kinds(moment), [[0, 3], [1, 2]])

    def test_alike_ones(self):
        moment = at("let a = no\ndef f()\n  say 1\nwhile yes\n  ask a 'q'\n  let a = no\n  call f()")
        one, other = exchanged(moment, (1, 0), [say(2)]), exchanged(moment, (1, 0), [("if", YES, [say(2)], [])])
        self.assertEqual(alike(one, other), ("alike", [(0, 0)]))
        self.assertIsNone(relation_fault(one, other, [(one, other)]))
        self.assertEqual(relation_fault(one, moment, [(one, moment)]), ("said", 0, False))
        self.assertEqual(relation_fault(one, other, [(one, one), (other, other)]), ("start",))
        self.assertEqual(relation_fault(one, other, [(other, one), (one, other)]), None)
        self.assertIsNone(apart_fault(one, moment, [True]))
        self.assertEqual(apart_fault(one, other, [True, False]), ("kept",))

    def test_a_relation_needs_the_editions(self):
        """Moments with equal shapes and other editions are not the same."""
        moment = at("let a = no\ndef f()\nlet f = 1\nwhile yes\n  ask a 'q'")
        one, other = exchanged(moment, (1, 0), [say(1)]), exchanged(moment, (1, 0), [say(2)])
        self.assertEqual(one.shape(), other.shape())
        self.assertEqual(relation_fault(one, other, [(one, one)]), ("start",))
        self.assertEqual(relation_fault(one, other, [(one, other)]), ("behind", 0, True))
        late, later = one.answered(True)[1], other.answered(True)[1]
        self.assertEqual(relation_fault(one, other, [(one, other), (late, late)]), ("behind", 0, True))
        self.assertIsNone(relation_fault(one, other, [(one, other), (late, later)]))


if __name__ == "__main__":
    unittest.main()
