"""Graphs: point [29]."""

import unittest

from helping import TURNS, at, counted, lines, lists_in, many_of

from everyanswer.errors import NoMost
from everyanswer.graphs import graph
from everyanswer.moments import Moment

LONG = ["  let n = 0", "  while (n < (999 * 9))", "    set n = (n + 1)"]


def bare(rows):
    """Events and what is behind them."""
    return [(node.event(), behind) for node, behind in rows]


def fault(moment, **more):
    """The number that is exceeded."""
    return many_of(lambda: graph(moment, **more))


class Rows(unittest.TestCase):
    def test_a_moment_at_no_question(self):
        for text, event in (("say 1", ("ended",)), ("raise 1", ("failed", "1")), ("while yes\n  say 1", ("ever", ["1"]))):
            moment = at(text)
            self.assertEqual(graph(moment), [(moment, [])])
            self.assertEqual(bare(graph(moment)), [(event, [])])

    def test_one_question(self):
        moment = at("let a = 1\nask a 'q'\nsay a\nif a\n  raise a")
        self.assertEqual(bare(graph(moment)), [(("ask", "q"), [(["no"], 1), (["yes"], 2)]), (("ended",), []), (("failed", "yes"), [])])
        self.assertIs(type(graph(moment)), list)
        self.assertIs(type(graph(moment)[0]), tuple)
        self.assertIs(type(graph(moment)[0][1][0]), tuple)
        self.assertIsInstance(graph(moment)[1][0], Moment)

    def test_the_order(self):
        # First all behind moment 0, no ahead of yes, then all behind moment 1 and so on.
        rows = lines("let a = 1", "let b = 1", "let c = 1", "ask a 'a'", "ask b 'b'", "ask c 'c'", "raise [a, b, c]")
        words = {True: "yes", False: "no"}
        found = graph(at(rows))
        self.assertEqual([node.event()[1] for node, _ in found[:7]], ["a", "b", "b", "c", "c", "c", "c"])
        self.assertEqual([behind for _, behind in found[:7]], [[([], 2 * k + 1), ([], 2 * k + 2)] for k in range(7)])
        self.assertEqual([node.event()[1] for node, _ in found[7:]],
                         [f"[{words[a]}, {words[b]}, {words[c]}]" for a in (False, True) for b in (False, True) for c in (False, True)])

    def test_each_once(self):
        rows = lines("let a = 1", "let n = 0", "while (n < 2)", "  ask a 'q'", "  set n = (n + 1)", "say a")
        self.assertEqual(bare(graph(at(rows))),
                         [(("ask", "q"), [([], 1), ([], 2)]), (("ask", "q"), [(["no"], 3), (["yes"], 3)]),
                          (("ask", "q"), [(["no"], 3), (["yes"], 3)]), (("ended",), [])])

    def test_back_to_the_first(self):
        self.assertEqual(bare(graph(at(TURNS.format(3)))),
                         [(("ask", "q"), [([], 1), ([], 1)]), (("ask", "q"), [([], 2), ([], 2)]), (("ask", "q"), [([], 0), ([], 0)])])

    def test_no_ahead_of_yes(self):
        rows = "let a = 1\nask a 'q'\nif a\n  say 2\n  ask a 'yes'\nelse\n  say 1\n  ask a 'no'"
        self.assertEqual(bare(graph(at(rows)))[:3], [(("ask", "q"), [(["1"], 1), (["2"], 2)]), (("ask", "no"), [([], 3), ([], 3)]),
                                                    (("ask", "yes"), [([], 3), ([], 3)])])

    def test_from_a_moment_further_on(self):
        moment = at("let a = 1\nask a 'q'\nask a 'r'\nsay a", [True])
        rows = graph(moment)
        self.assertEqual(rows[0][0], moment)
        self.assertEqual(bare(rows), [(("ask", "r"), [(["no"], 1), (["yes"], 1)]), (("ended",), [])])

    def test_goals_are_what_answered_tells(self):
        rows = graph(at(lines("let a = no", "let l = []", "while (len(l) < 3)", "  ask a 'q'", "  add l, a", "  say l")))
        self.assertEqual(len(rows), 8)
        for node, behind in rows:
            self.assertEqual(behind, [(said, [one for one, _ in rows].index(goal)) for said, goal in
                                      [node.answered(answer) for answer in (False, True) if node.event()[0] == "ask"]])
        for index, (one, _) in enumerate(rows):
            self.assertEqual([k for k, (other, _) in enumerate(rows) if one == other], [index])

    def test_ends_with_unlike_events_are_unlike(self):
        rows = lines("let a = 1", "let b = 1", "ask a 'q'", "ask b 'q'", "if (a == b)", "  while yes", "    say a", "raise b")
        self.assertEqual([event for event, _ in bare(graph(at(rows)))[3:]],
                         [("ever", ["no"]), ("failed", "yes"), ("failed", "no"), ("ever", ["yes"])])

    def test_what_is_returned_is_new(self):
        moment = at(TURNS.format(2))
        want = bare(graph(moment))
        found = graph(moment)
        every = lists_in(found)
        self.assertEqual(len({id(one) for one in every}), len(every))
        for one in every:
            one.clear()
        self.assertEqual(bare(graph(moment)), want)


class Most(unittest.TestCase):
    def test_no_most(self):
        for moment in (at("say 1"), at(TURNS.format(3)), at("let a = 1\nask a 'q'\nif yes\n" + lines(*LONG))):
            for thing in (0, -1, 1001, 10 ** 9, None, True, False, "1", "", [], [200], (200,), {}, moment):
                with self.assertRaises(NoMost):
                    graph(moment, most=thing)

    def test_handed_in_by_name_alone(self):
        self.assertRaises(TypeError, graph, at("say 1"), 200)

    def test_from_one_to_a_thousand(self):
        self.assertEqual(len(graph(at("say 1"), most=1)), 1)
        self.assertEqual(len(graph(at(TURNS.format(1)), most=1)), 1)
        self.assertEqual(len(graph(at(TURNS.format(2)), most=2)), 2)
        self.assertEqual(len(graph(at(TURNS.format(999)), most=999)), 999)
        thousand = at(TURNS.replace("{}", "(999 + 1)"))
        self.assertEqual(len(graph(thousand, most=1000)), 1000)
        self.assertEqual(fault(thousand, most=999), 999)
        self.assertEqual(fault(at(TURNS.replace("{}", "(999 + 2)")), most=1000), 1000)

    def test_exactly_one_too_many(self):
        for many in (2, 3, 7, 200, 300):
            self.assertEqual(len(graph(at(TURNS.format(many)), most=many)), many)
            self.assertEqual(fault(at(TURNS.format(many)), most=many - 1), many - 1)
        self.assertEqual(fault(at("let a = 1\nask a 'q'"), most=1), 1)

    def test_two_hundred_unless_said_otherwise(self):
        self.assertEqual(len(graph(at(TURNS.format(200)))), 200)
        self.assertEqual(fault(at(TURNS.format(201))), 200)
        self.assertEqual(fault(at(TURNS.format(999))), 200)
        self.assertEqual(len(graph(at(TURNS.format(201)), most=201)), 201)

    def test_endless_graphs(self):
        rows = at("let l = []\nlet a = 1\nwhile yes\n  ask a 'q'\n  let l = [l, a]")
        for most in (1, 2, 50, 200):
            self.assertEqual(fault(rows, most=most), most)


class First(unittest.TestCase):
    """Which reason is met first."""

    def test_a_run_ahead_of_the_count_of_its_moment(self):
        moment = at(lines("let a = 1", "ask a 'q'", "if (not a)", *LONG))
        self.assertEqual(fault(moment, most=1), 3000)
        self.assertEqual(fault(moment, most=2), 3000)
        moment = at(lines("let a = 1", "ask a 'q'", "if a", *LONG))
        self.assertEqual(fault(moment, most=1), 1)
        self.assertEqual(fault(moment, most=2), 3000)
        self.assertEqual(fault(moment, most=3), 3000)

    def test_as_soon_as_one_is_too_many(self):
        # Moment 1 is behind no, moment 2 behind yes; the run behind yes at moment 2 is too long.
        rows = ["let a = 1", "let b = 1", "ask a 'q'", "ask b 'q'", "if (a and b)", *LONG, "raise [a, b]"]
        for most, want in ((1, 1), (2, 2), (3, 3), (4, 4), (5, 5), (6, 3000), (7, 3000)):
            self.assertEqual(fault(at(lines(*rows)), most=most), want)

    def test_moments_that_are_known_are_not_counted(self):
        rows = lines("let a = no", "let n = 0", "while yes", "  ask a 'q'", "  if a", "    while yes", "      set n = (n + 1)")
        self.assertEqual(fault(at(rows), most=1), 3000)

    def test_at_exactly_three_thousand(self):
        for more, want in (([], None), (["say 2"], 3000)):
            moment = at(lines("let a = 1", "ask a 'q'", *counted(1498), "say 1", *more))
            self.assertEqual(fault(moment), want)
            self.assertEqual(fault(moment, most=1), want or 1)


if __name__ == "__main__":
    unittest.main()
