"""Random programs: moments, graphs, questions and likeness against what is reckoned plainly."""

import unittest

from asking import asking, varied
from making import NAMES, answers, made, made_flow
from plainly import Bound, Led, Plain, parting

from everyanswer.errors import TooMany
from everyanswer.graphs import graph
from everyanswer.likeness import alike, alike_programs, apart_fault, kinds, relation_fault
from everyanswer.moments import start
from everyanswer.questions import always, avoids_fault, ever, values
from everyanswer.runs import events

MAKERS = (asking, made, made_flow)


def size(program):
    """How many moments the graph of a program has; 0 if there are too many."""
    try:
        return len(graph(start(program)[1]))
    except TooMany:
        return 0


def programs(least, most, seeds):
    """Seeds and programs whose graphs have so many moments."""
    for seed in seeds:
        program = asking(seed)
        many = size(program)
        if least <= many <= most:
            yield seed, program, many


class Moments(unittest.TestCase):
    def test_step_by_step(self):
        for seed in range(150):
            for make in MAKERS:
                self.compare(make(seed), answers(seed), (make.__name__, seed))

    def compare(self, program, row, why):
        try:
            said, moment = start(program)
        except TooMany:
            self.assertRaises(Bound, Led, program, [])
            return
        for at in range(len(row) + 1):
            want = Led(program, row[:at])
            self.assertEqual((said, moment.event(), moment.shape()), (want.said, want.event, want.shape), why)
            for name in NAMES:
                self.assertEqual(moment.value(name), want.found.get(name), (why, name))
            self.assertEqual(moment.programs(), [program])
            if at == len(row) or not want.asks:
                return
            before = moment
            try:
                said, moment = before.answered(row[at])
            except TooMany:
                self.assertRaises(Bound, Led, program, row[:at + 1])
                return
            self.assertEqual((before.event(), before.shape()), (want.event, want.shape), why)

    def test_the_same_run_as_events(self):
        for seed in range(200):
            for make in MAKERS:
                program, row = make(seed), answers(seed)
                self.assertEqual(self.chained(program, row), self.told(program, row), (make.__name__, seed))

    def told(self, program, row):
        try:
            return events(program, row)
        except TooMany as e:
            return e.many

    def chained(self, program, row):
        try:
            said, moment = start(program)
            out = [("say", words) for words in said]
            for answer in row:
                if moment.event()[0] != "ask":
                    break
                out.append(moment.event())
                said, moment = moment.answered(answer)
                out += [("say", words) for words in said]
        except TooMany as e:
            return e.many
        event = moment.event()
        return out + [("wait", event[1]) if event[0] == "ask" else event]


class Graphs(unittest.TestCase):
    def test_graphs(self):
        many = 0
        for seed in range(150):
            for make in MAKERS:
                program = make(seed)
                most = 1 + seed % 25
                self.assertEqual(self.found(program, most), self.wanted(program, most), (make.__name__, seed))
                many += size(program) > 4
        self.assertGreater(many, 40)

    def found(self, program, most):
        try:
            return [(node.shape(), node.event(), behind) for node, behind in graph(start(program)[1], most=most)]
        except TooMany as e:
            return e.many

    def wanted(self, program, most):
        try:
            return Plain(program).graph(most)[1]
        except Bound:
            return 3000
        except OverflowError:
            return most


class Questions(unittest.TestCase):
    def test_ever_and_always(self):
        found = set()
        for seed, program, many in programs(2, 7, range(60)):
            plain = Plain(program)
            for path in program.paths():
                got = ever(program, path)
                self.assertEqual(got, plain.ever(path, many), (seed, path))
                found.add((got[0], len(got[1]) if got[0] == "answers" else 0))
                got = always(program, path)
                want = plain.always(path, many)
                if want is None:
                    self.judge(plain, path, many, got)
                    found.add((got[0], len(got[1]), len(got[2])))
                else:
                    self.assertEqual(got, want, (seed, path))
                    found.add(got)
        # The seeds bring cases of each kind.
        self.assertTrue({("answers", 0), ("answers", 1), ("answers", 2), ("never", 0), ("always", 0), ("always", 1),
                         ("always", 2), ("avoids", 0, 1), ("avoids", 1, 0), ("avoids", 1, 1)} <= found, found)

    def judge(self, plain, path, many, got):
        word, row, turn = got
        self.assertEqual(word, "avoids")
        self.assertLessEqual(len(row) + len(turn), many)
        self.assertIsNone(plain.avoids_fault(path, row, turn, many), (path, row, turn))
        self.assertIsNone(avoids_fault(plain.program, path, got))

    def test_what_avoids(self):
        found = set()
        things = [(row, turn) for row in ([], [False], [True, False]) for turn in ([], [True], [False, True])]
        for seed, program, many in programs(2, 6, range(50)):
            plain = Plain(program)
            for path in program.paths():
                for row, turn in things:
                    got = avoids_fault(program, path, ("avoids", row, turn))
                    self.assertEqual(got, plain.avoids_fault(path, row, turn, many), (seed, path, row, turn))
                    found.add(got)
        self.assertTrue({("ended", 0), ("ended", 1), ("ended", 2), ("open",), ("begun",), None} <= found, found)

    def test_values(self):
        several = 0
        for seed, program, many in programs(1, 6, range(60)):
            want = Plain(program).values(many)
            for path in program.paths():
                for name in ("a", "q", "r", "l", "m", "c", "o", "f", "self", "zz"):
                    got = values(program, path, name)
                    self.assertEqual(got, want.get((path, name), []), (seed, path, name))
                    several += len(got) > 1
        self.assertGreater(several, 100)


class Likeness(unittest.TestCase):
    def test_programs(self):
        found = set()
        for seed, program, many in programs(1, 6, range(200)):
            plain = Plain(program)
            paths = [path for path in program.paths() if path in plain.led([seed % 2 == 0, seed % 3 == 0]).begun]
            other = Plain(varied(program, seed, paths))
            both = many + size(other.program)
            if not many < both <= 10:
                continue
            got = alike_programs(program, other.program)
            want = [] if plain.led([]).said != other.led([]).said else parting(plain, [], other, [], both)
            self.compare(got, want, seed)
            found.add((got[0], len(got[1])))
            self.judge(program, other.program)
        self.assertTrue({("alike", 1), ("alike", 4), ("apart", 0), ("apart", 1), ("apart", 2)} <= found, found)

    def compare(self, got, want, why):
        if want is None:
            self.assertEqual(got[0], "alike", why)
        else:
            self.assertEqual(got, ("apart", want), why)

    def judge(self, program, other):
        _, one = start(program)
        _, two = start(other)
        word, pairs = alike(one, two)
        if word == "apart":
            self.assertIsNone(apart_fault(one, two, pairs))
            return
        lefts, rights = graph(one), graph(two)
        self.assertIsNone(relation_fault(one, two, [(lefts[left][0], rights[right][0]) for left, right in pairs]))
        self.assertEqual(self.closed(lefts, rights), pairs)

    def closed(self, lefts, rights):
        """The pairs of two graphs that are alike, in their order."""
        pairs = [(0, 0)]
        for left, right in pairs:
            for (_, one), (_, other) in zip(lefts[left][1], rights[right][1]):
                if (one, other) not in pairs:
                    pairs.append((one, other))
        return pairs

    def test_moments_of_one_graph(self):
        found = set()
        for seed, program, many in programs(2, 6, range(80)):
            plain = Plain(program)
            rows, _ = plain.graph(many)
            nodes = [node for node, _ in graph(start(program)[1])]
            parts = []
            for one in range(many):
                partings = [parting(plain, rows[one], plain, rows[other], many) for other in range(many)]
                for other in range(many):
                    self.compare(alike(nodes[one], nodes[other]), partings[other], (seed, one, other))
                    found.add(-1 if partings[other] is None else len(partings[other]))
                part = [other for other in range(many) if partings[other] is None]
                if part not in parts:
                    parts.append(part)
            self.assertEqual(kinds(nodes[0]), parts, seed)
        self.assertTrue({-1, 0, 1, 2} <= found, found)


if __name__ == "__main__":
    unittest.main()
