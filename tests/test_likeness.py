"""Moments and programs that go on alike: points [33] to [35], and what [29] says of them."""

import unittest

from helping import TURNS, at, counted, lines, lists_in, many_of

from everyanswer.graphs import graph
from everyanswer.likeness import alike, alike_programs, apart_fault, kinds, relation_fault
from everyanswer.moments import start
from everyanswer.programs import Program
from everyanswer.texts import read

ENDLESS = lines("let n = 0", "while yes", "  set n = (n + 1)")
# A run that is too long behind no, behind yes and behind both.
LONG_NO, LONG_YES, LONG = (lines("let a = 1", "ask a 'q'", f"if {e}", "  let n = 0", "  while yes", "    set n = (n + 1)")
                           for e in ("(not a)", "a", "yes"))


def relation(one, other):
    """What alike tells, with the moments in the place of their indexes."""
    word, pairs = alike(one, other)
    assert word == "alike", pairs
    lefts, rights = graph(one), graph(other)
    return [(lefts[left][0], rights[right][0]) for left, right in pairs]


class Alike(unittest.TestCase):
    def test_with_itself(self):
        for text in ("", "say 1", "raise 1", "while yes\n  say 1"):
            self.assertEqual(alike(at(text), at(text)), ("alike", [(0, 0)]))
        moment = at("let a = 1\nask a 'q'\nask a 'r'\nif a\n  raise a")
        self.assertEqual(alike(moment, moment), ("alike", [(0, 0), (1, 1), (2, 2), (3, 3), (4, 4)]))
        self.assertIs(type(alike(moment, moment)), tuple)
        self.assertIs(type(alike(moment, moment)[1][0]), tuple)

    def test_unlike_shapes(self):
        one = at("let a = no\nwhile yes\n  ask a 'q'\n  say a\n  let a = no")
        other = at("let b = no\nlet c = [1]\nwhile yes\n  add c, c\n  cut c\n  ask b 'q'\n  say b")
        self.assertNotEqual(one.shape(), other.shape())
        self.assertEqual(alike(one, other), ("alike", [(0, 0), (0, 1)]))
        self.assertEqual(alike(other, one), ("alike", [(0, 0), (1, 0)]))
        # A list that nothing looks at again tells the shapes apart, but nothing else.
        rows = "let a = 1\nlet l = []\nwhile yes\n  ask a 'q'\n  let l = [a]\n  let a = 1"
        self.assertNotEqual(at(rows), at(rows, [True]))
        self.assertEqual(alike(at(rows), at(rows, [True]))[0], "alike")

    def test_the_order_of_the_pairs(self):
        # Three and two moments in a ring: all six pairs, one behind the other.
        pairs = [(0, 0), (1, 1), (2, 0), (0, 1), (1, 0), (2, 1)]
        self.assertEqual(alike(at(TURNS.format(3)), at(TURNS.format(2))), ("alike", pairs))
        self.assertEqual(alike(at(TURNS.format(2)), at(TURNS.format(3))), ("alike", [(b, a) for a, b in pairs]))
        self.assertEqual(alike(at(TURNS.format(3)), at(TURNS.format(1))), ("alike", [(0, 0), (1, 0), (2, 0)]))

    def test_no_ahead_of_yes(self):
        # Behind no three moments in turn, behind yes the first one again; against two that tell the last answer.
        one = at(lines("let n = 0", "let a = no", "while yes", "  ask a 'q'", "  if a", "    set n = 0", "  else", "    set n = (n + 1)",
                       "  if (n == 3)", "    set n = 0", "  let a = no"))
        other = at("let a = no\nwhile yes\n  ask a 'q'")
        self.assertEqual(alike(one, other), ("alike", [(0, 0), (1, 0), (0, 1), (2, 0)]))

    def test_apart_at_once(self):
        texts = ["let a = 1\nask a 'q'", "let a = 1\nask a 'r'", "", "raise 1", "raise 2", "while yes", "while yes\n  say 1"]
        for index, one in enumerate(texts):
            for k, other in enumerate(texts):
                want = "alike" if index == k else "apart"
                self.assertEqual(alike(at(one), at(other))[0], want)
                if want == "apart":
                    self.assertEqual(alike(at(one), at(other))[1], [])

    def test_apart_by_words(self):
        one, other, third = (at(lines("let a = 1", "ask a 'q'", "if a", f"  say {n}", "else", f"  say {m}")) for n, m in ((1, 1), (1, 2), (2, 1)))
        self.assertEqual(alike(one, other), ("apart", [False]))
        self.assertEqual(alike(one, third), ("apart", [True]))
        self.assertEqual(alike(other, third), ("apart", [False]))

    def test_apart_by_the_order_of_words(self):
        one, other = at("let a = 1\nask a 'q'\nsay 1\nsay 2"), at("let a = 1\nask a 'q'\nsay 2\nsay 1")
        self.assertEqual(alike(one, other), ("apart", [False]))
        one, other = at("let a = 1\nask a 'q'\nsay 1"), at("let a = 1\nask a 'q'\nsay 1\nsay 1")
        self.assertEqual(alike(one, other), ("apart", [False]))
        self.assertEqual(alike(at("let a = 1\nask a 'q'\nsay 'ab'"), at("let a = 1\nask a 'q'\nsay 'a'\nsay 'b'")), ("apart", [False]))

    def test_apart_by_events(self):
        for one, other in (("raise 1", "raise 2"), ("raise 1", "say a"), ("ask a 'r'", "ask a 's'"), ("while yes", "let b = 1"),
                           ("while yes\n  say 1", "while yes\n  say 2"), ("let b = 1", "raise none")):
            one, other = (at("let a = 1\nask a 'q'\nif a\n  " + text.replace("\n", "\n  ")) for text in (one, other))
            self.assertEqual(alike(one, other), ("apart", [True]))

    def test_the_same_words_for_unlike_values(self):
        one, other = at("let a = 1\nask a 'q'\nsay 1\nraise none"), at("let a = 1\nask a 'q'\nsay '1'\nraise 'none'")
        self.assertEqual(alike(one, other), ("alike", [(0, 0), (1, 1)]))

    def test_words_said_ahead_and_behind_a_question_differ(self):
        one, other = at("let a = 1\nask a 'q'\nsay 1\nask a 'r'"), at("let a = 1\nask a 'q'\nask a 'r'\nsay 1")
        self.assertEqual(alike(one, other), ("apart", [False]))

    def test_words_said_and_said_for_ever(self):
        one, other = at("let a = 1\nask a 'q'\nsay 1\nwhile yes\n  say 1"), at("let a = 1\nask a 'q'\nwhile yes\n  say 1\n  say 1")
        self.assertEqual(alike(one, other)[0], "alike")

    def test_the_shortest_row(self):
        # Two programs that are apart behind seven answers no, or behind two, of which the last is yes.
        rows = ["let n = 0", "let a = 1", "while yes", "  ask a 'q'", "  set n = (n + 1)", "  if (a and (n == {}))", "    say 1", "  if (n == 7)", "    say {}",
                "    leave"]
        one, other = at(lines(*rows).format(2, 7)), at(lines(*rows).format(9, 8))
        self.assertEqual(alike(one, other), ("apart", [False, True]))
        one, other = at(lines(*rows).format(9, 7)), at(lines(*rows).format(9, 8))
        self.assertEqual(alike(one, other), ("apart", [False] * 7))
        one, other = at(lines(*rows).format(7, 7)), at(lines(*rows).format(9, 7))
        self.assertEqual(alike(one, other), ("apart", [False] * 6 + [True]))

    def test_the_first_of_the_shortest(self):
        rows = ["if yes", "  let a = 1", "  let b = 1", "  let c = 1", "  ask a 'q'", "  ask b 'q'", "  ask c 'q'", "  let n = 0", "  if a",
                "    set n = 4", "  if b", "    set n = (n + 2)", "  if c", "    set n = (n + 1)", "  say (n < {})"]
        self.assertEqual(alike(at(lines(*rows).format(3)), at(lines(*rows).format(5))), ("apart", [False, True, True]))
        self.assertEqual(alike(at(lines(*rows).format(6)), at(lines(*rows).format(9))), ("apart", [True, True, False]))
        rows = ["let a = 1", "let b = 1", "ask a 'q'", "ask b 'q'", "if (a {} b)", "  say 1"]
        self.assertEqual(alike(at(lines(*rows).format("==")), at(lines(*rows).format("and"))), ("apart", [False, False]))
        self.assertEqual(alike(at(lines(*rows).format("or")), at(lines(*rows).format("and"))), ("apart", [False, True]))
        self.assertEqual(alike(at(lines(*rows).format("==")), at(lines(*rows).format("or"))), ("apart", [False, False]))

    def test_shorter_goes_ahead_of_lesser(self):
        rows = ["let a = 1", "ask a 'q'", "if a", "  say {}", "else", "  ask a 'q'", "  say {}"]
        self.assertEqual(alike(at(lines(*rows).format(1, 1)), at(lines(*rows).format(2, 2))), ("apart", [True]))
        self.assertEqual(alike(at(lines(*rows).format(1, 1)), at(lines(*rows).format(1, 2))), ("apart", [False, False]))

    def test_a_long_row(self):
        one, other = at(TURNS.format(99) + "\n    say 1"), at(TURNS.format(98) + "\n    say 1")
        self.assertEqual(alike(one, other), ("apart", [False] * 98))

    def test_moments_of_one_run(self):
        moment = at(TURNS.format(5))
        self.assertEqual(alike(moment, moment.answered(True)[1]), ("alike", [(0, 0), (1, 1), (2, 2), (3, 3), (4, 4)]))
        moment = at(TURNS.format(5) + "\n    say 1")
        self.assertEqual(alike(moment, moment.answered(True)[1]), ("apart", [False] * 4))

    def test_too_many(self):
        small, two, more = at("say 1"), at(TURNS.format(200)), at(TURNS.format(201))
        self.assertEqual(alike(two, two)[0], "alike")
        self.assertEqual(many_of(alike, more, small), 200)
        self.assertEqual(many_of(alike, small, more), 200)
        self.assertEqual(many_of(alike, at(LONG_NO), small), 3000)
        self.assertEqual(many_of(alike, small, at(LONG_YES)), 3000)
        # First the graph of the one, then that of the other.
        self.assertEqual(many_of(alike, more, at(LONG)), 200)
        self.assertEqual(many_of(alike, at(LONG), more), 3000)

    def test_too_many_also_where_they_are_apart_at_once(self):
        self.assertEqual(many_of(alike, at("let a = 1\nask a 'x'"), at(LONG)), 3000)
        self.assertEqual(many_of(alike, at("raise 1"), at(TURNS.format(201))), 200)

    def test_what_is_returned_is_new(self):
        moment = at(TURNS.format(2))
        for one in lists_in(alike(moment, moment)):
            one.clear()
        self.assertEqual(alike(moment, moment), ("alike", [(0, 0), (1, 1)]))
        alike(moment, at(""))[1].append(1)
        self.assertEqual(alike(moment, at("")), ("apart", []))


class AlikePrograms(unittest.TestCase):
    def test_alike(self):
        one = read(lines("let a = 1", "say 1", "ask a 'q'", "if a", "  say 2", "else", "  say 3"))
        other = read(lines("say '1'", "let b = 1", "ask b 'q'", "if (not b)", "  say 3", "else", "  say 2"))
        self.assertEqual(alike_programs(one, other), ("alike", [(0, 0), (1, 1)]))
        self.assertEqual(alike_programs(one, one), ("alike", [(0, 0), (1, 1)]))
        self.assertEqual(alike_programs(read(""), read("let a = 1")), ("alike", [(0, 0)]))

    def test_first_words(self):
        self.assertEqual(alike_programs(read("say 1"), read("say 2")), ("apart", []))
        self.assertEqual(alike_programs(read("say 1"), read("")), ("apart", []))
        self.assertEqual(alike_programs(read("say 1\nlet a = 1\nask a 'q'"), read("say 2\nlet a = 1\nask a 'q'")), ("apart", []))
        self.assertEqual(alike_programs(read("say 1\nsay 1"), read("say 1")), ("apart", []))
        one, other = read("say 1\nlet a = 1\nask a 'q'"), read("let a = 1\nask a 'q'")
        self.assertEqual(alike(start(one)[1], start(other)[1])[0], "alike")
        self.assertEqual(alike_programs(one, other), ("apart", []))

    def test_first_events(self):
        for one, other in (("raise 1", ""), ("let a = 1\nask a 'q'", "let a = 1\nask a 'r'"), ("while yes", ""), ("raise 1", "raise 2")):
            self.assertEqual(alike_programs(read(one), read(other)), ("apart", []))

    def test_further_on(self):
        one, other = (read(lines("say 1", "let a = 1", "ask a 'q'", "if a", f"  say {n}")) for n in (1, 2))
        self.assertEqual(alike_programs(one, other), ("apart", [True]))

    def test_said_for_ever(self):
        self.assertEqual(alike_programs(read("say 1\nwhile yes\n  say 1"), read("while yes\n  say 1\n  say 1")), ("alike", [(0, 0)]))
        self.assertEqual(alike_programs(read("say 1\nsay 2\nwhile yes\n  say 1\n  say 2"), read("while yes\n  say 1\n  say 2")),
                         ("alike", [(0, 0)]))
        self.assertEqual(alike_programs(read("while yes\n  say 2\n  say 1"), read("while yes\n  say 1\n  say 2")), ("apart", []))

    def test_too_many(self):
        endless, more, small = read(ENDLESS), read(TURNS.format(201)), read("say 1")
        self.assertEqual(many_of(alike_programs, endless, small), 3000)
        self.assertEqual(many_of(alike_programs, small, endless), 3000)
        self.assertEqual(many_of(alike_programs, more, endless), 3000)
        self.assertEqual(many_of(alike_programs, more, more), 200)
        self.assertEqual(many_of(alike_programs, read(LONG), read(LONG)), 3000)

    def test_no_graph_where_the_beginnings_differ(self):
        more = read(TURNS.format(201))
        self.assertEqual(alike_programs(more, read("say 1")), ("apart", []))
        self.assertEqual(alike_programs(read("say 1\n" + TURNS.format(201)), more), ("apart", []))
        self.assertEqual(alike_programs(read(LONG), read("raise 1")), ("apart", []))
        self.assertEqual(alike_programs(read("say 1\n" + LONG), read(LONG)), ("apart", []))


class RelationFault(unittest.TestCase):
    def test_what_alike_tells(self):
        for one, other in ((TURNS.format(3), TURNS.format(2)), ("say 1", "say 2"), (TURNS.format(4), TURNS.format(4)),
                           ("let a = 1\nask a 'q'\nif a\n  raise a", "let b = 1\nask b 'q'\nif (not b)\nelse\n  raise 'yes'")):
            pairs = relation(at(one), at(other))
            self.assertIsNone(relation_fault(at(one), at(other), pairs))
            self.assertIsNone(relation_fault(at(one), at(other), pairs[::-1]))
            self.assertIsNone(relation_fault(at(one), at(other), pairs + pairs))

    def test_the_form(self):
        one = at(TURNS.format(2))
        for thing in (None, 0, True, "", (), {}, one, ((one, one),), (one, one), [one], [one, one], [[one, one]], [(one,)], [(one, one, one)],
                      [()], [None], [(one, None)], [(None, one)], [(one, one), (0, 0)], [(one, one), one], [(one, [one])], [(0, 0)],
                      [(one, one), []], {(0, 0): 1}, "ab", [(Program([]), Program([]))]):
            self.assertEqual(relation_fault(one, one, thing), ("form",))

    def test_the_start(self):
        one = at(TURNS.format(2))
        behind = one.answered(True)[1]
        self.assertEqual(relation_fault(one, one, []), ("start",))
        self.assertEqual(relation_fault(one, behind, [(behind, one)]), ("start",))
        self.assertEqual(relation_fault(one, one, [(one, behind), (behind, one), (behind, behind)]), ("start",))
        self.assertIsNone(relation_fault(one, one, [(behind, behind), (one, one)]))
        self.assertIsNone(relation_fault(one, behind, [(behind, one), (one, behind)]))

    def test_pairs_are_compared_by_what_they_are(self):
        one = at(TURNS.format(2))
        fresh = [(at(TURNS.format(2), row), at(TURNS.format(2), row)) for row in ([True], [True, False])]
        self.assertIsNone(relation_fault(one, one, fresh))
        # The same shapes and events, but of other programs.
        other = at(TURNS.format(3))
        self.assertEqual(other.shape(), one.shape())
        self.assertEqual(relation_fault(one, one, [(one, other), (other, one)]), ("start",))
        self.assertEqual(relation_fault(one, other, [(one, one), (one, other)]), ("behind", 0, False))

    def test_unlike_pairs(self):
        rows = "let a = 1\nask a 'q'\nif a\n  {}\nelse\n  {}"
        one, other = at(rows.format("raise 1", "raise 2")), at(rows.format("raise 3", "raise 2"))
        no, yes = ((one.answered(answer)[1], other.answered(answer)[1]) for answer in (False, True))
        self.assertEqual(relation_fault(one, other, [(one, other), no, yes]), ("event", 2))
        self.assertEqual(relation_fault(one, other, [yes, (one, other), no]), ("event", 0))
        self.assertEqual(relation_fault(one, other, [(one, other), no]), ("behind", 0, True))
        self.assertEqual(relation_fault(one, other, [(one, other), yes]), ("behind", 0, False))
        self.assertEqual(relation_fault(one, other, [no, (one, other)]), ("behind", 1, True))

    def test_an_event_at_once(self):
        one, other = at("let a = 1\nask a 'q'"), at("let a = 1\nask a 'r'")
        self.assertEqual(relation_fault(one, other, [(one, other)]), ("event", 0))
        self.assertEqual(relation_fault(one, at("say 1"), [(one, at("say 1"))]), ("event", 0))
        self.assertEqual(relation_fault(at("raise 1"), at("raise 1"), [(at("raise 1"), at("raise 1")), (one, other)]), ("event", 1))

    def test_said(self):
        rows = "let a = 1\nask a 'q'\nif a\n  say {}\nelse\n  say {}"
        one = at(rows.format(1, 2))
        self.assertEqual(relation_fault(one, at(rows.format(1, 3)), [(one, at(rows.format(1, 3)))]), ("said", 0, False))
        # The words behind no, the pair behind no, then the words and the pair behind yes.
        other = at(rows.format(3, 2))
        end = (at(rows.format(1, 2), [False]), at(rows.format(3, 2), [False]))
        self.assertEqual(relation_fault(one, other, [(one, other)]), ("behind", 0, False))
        self.assertEqual(relation_fault(one, other, [end, (one, other)]), ("said", 1, True))
        self.assertEqual(relation_fault(one, other, [(one, other), end]), ("said", 0, True))
        other = at(rows.format(1, 2) + "\nsay 4")
        self.assertEqual(relation_fault(one, other, [(one, other)]), ("said", 0, False))

    def test_the_first_pair(self):
        rows = "let a = 1\nask a 'q'\nif a\n  ask a 'r'\n  {}\nelse\n  say 1"
        one, other = at(rows.format("raise 1")), at(rows.format("raise 2"))
        pairs = [(one.answered(False)[1], other.answered(False)[1]), (one.answered(True)[1], other.answered(True)[1]), (one, other),
                 (one.answered(True)[1].answered(True)[1], other.answered(True)[1].answered(True)[1])]
        self.assertEqual(relation_fault(one, other, pairs), ("event", 3))
        self.assertEqual(relation_fault(one, other, pairs[:3]), ("behind", 1, False))
        self.assertEqual(relation_fault(one, other, pairs[:1] + pairs[2:]), ("behind", 1, True))

    def test_no_graph_is_made(self):
        one = at(TURNS.format(999))
        self.assertEqual(relation_fault(one, one, [(one, one)]), ("behind", 0, False))
        self.assertIsNone(relation_fault(one, one, [(node, node) for node, _ in graph(one, most=1000)]))
        endless = at("let l = []\nlet a = 1\nwhile yes\n  ask a 'q'\n  let l = [l]")
        self.assertEqual(relation_fault(endless, endless, [(endless, endless)]), ("behind", 0, False))

    def test_runs_are_led_only_as_needed(self):
        no, yes, both = at(LONG_NO), at(LONG_YES), at(LONG)
        plain = at("let a = 1\nask a 'q'")
        self.assertEqual(relation_fault(both, both, None), ("form",))
        self.assertEqual(relation_fault(both, both, [(both, plain)]), ("start",))
        self.assertEqual(many_of(relation_fault, no, no, [(no, no)]), 3000)
        self.assertEqual(relation_fault(yes, yes, [(yes, yes)]), ("behind", 0, False))
        end = yes.answered(False)[1]
        self.assertEqual(many_of(relation_fault, yes, yes, [(yes, yes), (end, end)]), 3000)
        self.assertEqual(many_of(relation_fault, plain, no, [(plain, no)]), 3000)
        self.assertEqual(many_of(relation_fault, no, plain, [(no, plain)]), 3000)
        other = at("let a = 1\nask a 'r'")
        self.assertEqual(relation_fault(both, other, [(both, other), (both, both)]), ("event", 0))
        self.assertEqual(relation_fault(plain, plain, [(plain, plain), (both, both)]), ("behind", 0, False))
        self.assertEqual(many_of(relation_fault, plain, plain, [(both, both), (plain, plain)]), 3000)

    def test_words_are_compared_ahead_of_the_runs_for_yes(self):
        said = at("let a = 1\nask a 'q'\nsay 1")
        self.assertEqual(relation_fault(at(LONG_YES), said, [(at(LONG_YES), said)]), ("said", 0, False))
        self.assertEqual(relation_fault(said, at(LONG_YES), [(said, at(LONG_YES))]), ("said", 0, False))
        self.assertEqual(many_of(relation_fault, said, at(LONG_NO), [(said, at(LONG_NO))]), 3000)

    def test_exactly_three_thousand(self):
        for more, want in (([], None), (["say 2"], 3000)):
            moment = at(lines("let a = 1", "ask a 'q'", *counted(1498), "say 1", *more))
            self.assertEqual(many_of(relation_fault, moment, moment, [(moment, moment)]), want)

    def test_the_list_stays(self):
        one = at(TURNS.format(2))
        pairs = relation(one, one)
        before = list(pairs)
        relation_fault(one, one, pairs)
        self.assertEqual(pairs, before)
        self.assertEqual(len(pairs), 2)

    def test_many_pairs(self):
        one, other = at(TURNS.format(19)), at(TURNS.format(17))
        pairs = relation(one, other)
        self.assertEqual(len(pairs), 19 * 17)
        self.assertIsNone(relation_fault(one, other, pairs))
        self.assertEqual(relation_fault(one, other, pairs[:-1]), ("behind", 19 * 17 - 2, False))


class ApartFault(unittest.TestCase):
    def test_what_alike_tells(self):
        rows = ["let n = 0", "let a = 1", "while (n < 3)", "  ask a 'q'", "  set n = (n + 1)", "  if (a and (n == {}))", "    say 1", "say {}"]
        one = at(lines(*rows).format(2, 1))
        for many, last in ((3, 1), (2, 2), (1, 1)):
            other = at(lines(*rows).format(many, last))
            word, row = alike(one, other)
            self.assertEqual(word, "apart")
            self.assertIsNone(apart_fault(one, other, row))
            self.assertEqual(apart_fault(one, other, row[:-1]), ("kept",))

    def test_the_form(self):
        one = at(TURNS.format(2))
        for thing in (None, True, 0, "", "no", (), (True,), [1], [0], [None], ["yes"], [True, 1], [[True]], {}, [one], one):
            self.assertEqual(apart_fault(one, at("say 1"), thing), ("form",))
            self.assertEqual(apart_fault(one, one, thing), ("form",))

    def test_apart_at_once(self):
        for one, other in (("say 1", "raise 1"), ("let a = 1\nask a 'q'", "let a = 1\nask a 'r'"), ("while yes", "while yes\n  say 1"),
                           ("let a = 1\nask a 'q'", "")):
            for row in ([], [True], [False, True, True]):
                self.assertIsNone(apart_fault(at(one), at(other), row))

    def test_kept(self):
        one, other = at(TURNS.format(2)), at(TURNS.format(3))
        for row in ([], [True], [False] * 7, [True, False] * 30):
            self.assertEqual(apart_fault(one, other, row), ("kept",))
        self.assertEqual(apart_fault(at("say 1"), at("say 2"), []), ("kept",))
        rows = "let a = 1\nask a 'q'\nif a\n  say {}"
        self.assertEqual(apart_fault(at(rows.format(1)), at(rows.format(2)), [False]), ("kept",))

    def test_over(self):
        self.assertEqual(apart_fault(at("say 1"), at("say 2"), [True]), ("over", 0))
        self.assertEqual(apart_fault(at("while yes"), at("while yes"), [True, False]), ("over", 0))
        one = at("let a = 1\nask a 'q'\nif a\n  ask a 'r'\nraise 1")
        self.assertEqual(apart_fault(one, one, [False, True]), ("over", 1))
        self.assertEqual(apart_fault(one, one, [True, True]), ("kept",))
        self.assertEqual(apart_fault(one, one, [True, False, True, True]), ("over", 2))

    def test_apart_on_the_way(self):
        rows = "let a = 1\nask a 'q'\nsay {}\nif a\n  ask a 'r'"
        one, other = at(rows.format(1)), at(rows.format(2))
        for row in ([False], [True], [False, True], [False, False, False], [True, True, True, True]):
            self.assertIsNone(apart_fault(one, other, row))
        rows = "let a = 1\nask a 'q'\nask a 'r'\nraise {}"
        self.assertIsNone(apart_fault(at(rows.format(1)), at(rows.format(2)), [True, True]))
        self.assertEqual(apart_fault(at(rows.format(1)), at(rows.format(2)), [True]), ("kept",))

    def test_apart_where_one_is_over(self):
        one, other = at("let a = 1\nask a 'q'"), at("let a = 1\nask a 'q'\nask a 'q'")
        self.assertIsNone(apart_fault(one, other, [True]))
        self.assertIsNone(apart_fault(one, other, [True, True]))
        self.assertIsNone(apart_fault(other, one, [True, True, False]))

    def test_runs_are_led_only_as_needed(self):
        no, yes, both = at(LONG_NO), at(LONG_YES), at(LONG)
        plain, said = at("let a = 1\nask a 'q'"), at("let a = 1\nask a 'q'\nsay 1")
        self.assertEqual(apart_fault(both, both, None), ("form",))
        self.assertEqual(apart_fault(both, both, []), ("kept",))
        self.assertIsNone(apart_fault(both, at("say 1"), [True]))
        self.assertEqual(apart_fault(yes, yes, [False]), ("kept",))
        self.assertEqual(apart_fault(no, no, [True, True]), ("over", 1))
        self.assertEqual(many_of(apart_fault, yes, yes, [True]), 3000)
        self.assertEqual(many_of(apart_fault, plain, no, [False]), 3000)
        self.assertEqual(many_of(apart_fault, no, plain, [False]), 3000)
        # What has differed once leads no run any more.
        self.assertIsNone(apart_fault(said, yes, [False, True]))
        rows = "let a = 1\nask a 'q'\nsay {}\nask a 'q'\nlet n = 0\nwhile yes\n  set n = (n + 1)"
        self.assertIsNone(apart_fault(at(rows.format(1)), at(rows.format(2)), [True, True]))
        self.assertEqual(many_of(apart_fault, at(rows.format(1)), at(rows.format(1)), [True, True]), 3000)

    def test_no_graph_is_made(self):
        endless = at("let l = []\nlet a = 1\nwhile yes\n  ask a 'q'\n  let l = [l]")
        self.assertEqual(apart_fault(endless, endless, [True] * 60), ("kept",))

    def test_the_list_stays(self):
        row = [True, False]
        apart_fault(at(TURNS.format(2)), at(TURNS.format(3)), row)
        self.assertEqual(row, [True, False])


class Kinds(unittest.TestCase):
    def test_each_end(self):
        for text in ("", "raise 1", "while yes"):
            self.assertEqual(kinds(at(text)), [[0]])
        self.assertEqual(kinds(at("let a = 1\nask a 'q'")), [[0], [1]])

    def test_all_alike(self):
        self.assertEqual(kinds(at(TURNS.format(7))), [[0, 1, 2, 3, 4, 5, 6]])

    def test_all_unlike(self):
        self.assertEqual(kinds(at(TURNS.format(5) + "\n    say 1")), [[0], [1], [2], [3], [4]])
        self.assertEqual(len(kinds(at(TURNS.format(200) + "\n    say 1"))), 200)

    def test_parted(self):
        # The last answer stays in the shape, but nothing ever tells it.
        rows = lines("let a = no", "let n = 0", "while (n < 3)", "  ask a 'q'", "  set n = (n + 1)", "say n")
        self.assertEqual(kinds(at(rows)), [[0], [1, 2], [3, 4], [5]])
        rows = lines("let a = no", "let n = 0", "while yes", "  ask a 'q'", "  let a = no", "  set n = (n + 1)", "  if (n == 6)", "    set n = 0", "  if (n == 2)",
                     "    say 1", "  if (n == 5)", "    say 1")
        self.assertEqual(kinds(at(rows)), [[0, 3], [1, 4], [2, 5]])

    def test_by_events_and_by_words(self):
        rows = lines("let a = 1", "let b = 1", "ask a 'q'", "if a", "  ask b 'r'", "else", "  ask b 's'", "if (a == b)", "  raise 1", "raise b")
        self.assertEqual(kinds(at(rows)), [[0], [1], [2], [3], [4], [5]])
        rows = lines("let a = 1", "let b = 1", "ask a 'q'", "ask b 'r'", "say {}", "raise {}")
        self.assertEqual(kinds(at(rows.format("1", "1"))), [[0], [1, 2], [3]])
        self.assertEqual(kinds(at(rows.format("a", "1"))), [[0], [1], [2], [3]])
        self.assertEqual(kinds(at(rows.format("1", "b"))), [[0], [1, 2], [3], [4]])
        self.assertEqual(kinds(at(rows.format("b", "1"))), [[0], [1, 2], [3]])

    def test_no_and_yes_are_told_apart(self):
        rows = lines("let a = 1", "let b = 1", "ask a 'q'", "ask b 'r'", "if (a == b)", "  say 1")
        self.assertEqual(kinds(at(rows)), [[0], [1], [2], [3]])

    def test_against_alike(self):
        rows = lines("let l = [0]", "let a = 1", "let n = 0", "while (n < 4)", "  ask a 'q'", "  put l[0] = [a, n]", "  if (a and (n == 1))", "    say a",
                     "  set n = (n + 1)", "say 'x'")
        moment = at(rows)
        nodes = [node for node, _ in graph(moment)]
        parts = kinds(moment)
        self.assertEqual(sorted(index for part in parts for index in part), list(range(len(nodes))))
        for part in parts:
            for index, node in enumerate(nodes):
                self.assertEqual(alike(nodes[part[0]], node)[0] == "alike", index in part)

    def test_too_many(self):
        self.assertEqual(many_of(kinds, at(TURNS.format(201))), 200)
        self.assertIsNone(many_of(kinds, at(TURNS.format(200))))
        self.assertEqual(many_of(kinds, at(LONG)), 3000)

    def test_what_is_returned_is_new(self):
        moment = at(TURNS.format(2) + "\n    say 1")
        found = kinds(moment)
        self.assertEqual(len({id(one) for one in lists_in(found)}), 3)
        for one in lists_in(found):
            one.clear()
        self.assertEqual(kinds(moment), [[0], [1]])


if __name__ == "__main__":
    unittest.main()
