"""Random programs: rewritings against blocks that are made anew, and whether they are alike."""

import random
import re
import unittest

from asking import asking
from making import NAMES, made, made_flow
from plainly import Plain, parting
from rebuilding import body_of, replaced

from everyanswer.errors import NoName, NoPlace, NoProgram, TooMany
from everyanswer.graphs import graph
from everyanswer.likeness import alike_programs
from everyanswer.moments import start
from everyanswer.programs import Program
from everyanswer.rewritings import cut_out, needless, parted, renamed, turned, unrolled, wrapped
from everyanswer.texts import program_text, read

MAKERS = (asking, made, made_flow)
YES = ("yes",)


def leaving(block):
    """Whether the program with this block in a while would still stand without the while."""
    try:
        Program([("def", "f", [], [("class", "k", None, [("m", ["s"], block)])])])
        return False
    except NoProgram:
        return True


def plain_turned(statement):
    return [("if", ("not", statement[1]), statement[3], statement[2])] if statement[0] == "if" else None


def plain_unrolled(statement):
    if statement[0] != "while" or leaving(statement[2]):
        return None
    return [("if", statement[1], statement[2] + [statement], [])]


def plain_parted(statement):
    if statement[0] != "try" or statement[2] is None or statement[4] == []:
        return None
    return [("try", [statement[:4] + ([],)], None, [], statement[4])]


def plain_wrapped(statement):
    return [("if", YES, [statement], [])]


def plain_cut(statement):
    return []


REWRITINGS = ((turned, plain_turned), (unrolled, plain_unrolled), (parted, plain_parted), (wrapped, plain_wrapped),
              (cut_out, plain_cut))


class Rewritings(unittest.TestCase):
    def test_what_is_due(self):
        found = {}
        for seed in range(15):
            for make in MAKERS:
                program = make(seed)
                before = program.block()
                for path in program.paths():
                    for rewriting, plain in REWRITINGS:
                        want = self.wanted(program, path, plain)
                        self.assertEqual(self.got(rewriting, program, path), want, (make.__name__, seed, path))
                        key = (rewriting.__name__, want is None)
                        found[key] = found.get(key, 0) + 1
                self.assertEqual(program.block(), before)
        self.assertTrue(all(found.get((rewriting.__name__, none), 0) > 20 for rewriting, _ in REWRITINGS for none in (False, True)),
                        found)

    def wanted(self, program, path, plain):
        block = program.block()
        statements = plain(body_of(block, path[:-1])[path[-1]])
        if statements is None:
            return None
        try:
            return Program(replaced(block, path, statements)).block()
        except NoProgram:
            return None

    def got(self, rewriting, program, path):
        try:
            return rewriting(program, path).block()
        except NoPlace:
            return None

    def test_alike(self):
        many = {}
        for seed in range(40):
            for make in MAKERS:
                program = make(seed)
                for path in random.Random(seed).sample(program.paths(), 8):
                    for rewriting in (turned, unrolled, parted, wrapped):
                        try:
                            word = alike_programs(program, rewriting(program, path))[0]
                        except (NoPlace, TooMany):
                            continue
                        self.assertEqual(word, "alike", (rewriting.__name__, make.__name__, seed, path))
                        many[rewriting.__name__] = many.get(rewriting.__name__, 0) + 1
        self.assertTrue(len(many) == 4 and min(many.values()) > 10, many)


class Renamed(unittest.TestCase):
    def test_by_the_text(self):
        """What stands outside of the phrases, as a whole word, is a name; the names of the programs are no words."""
        for seed in range(100):
            for make in MAKERS:
                program = make(seed)
                source = random.Random(seed)
                one = source.choice(NAMES)
                other = source.choice(NAMES + ["zz", "yy"] * 4)
                want = self.by_text(program, one, other)
                try:
                    got = renamed(program, one, other)
                except NoName:
                    self.assertIsNone(want)
                    continue
                self.assertTrue(got == want)
                self.assertTrue(renamed(got, other, one) == program or one not in self.names(program))

    def names(self, program):
        """The words of the text outside of its phrases."""
        return set(re.findall(r"[a-z]+", re.sub(r"'[^']*'", "", program_text(program))))

    def by_text(self, program, one, other):
        if "make" in (one, other) or other in self.names(program):
            return None
        parts = program_text(program).split("'")
        parts[::2] = [re.sub(rf"\b{one}\b", other, part) for part in parts[::2]]
        return read("'".join(parts))

    def test_alike(self):
        many = 0
        for seed in range(60):
            for make in MAKERS:
                program = make(seed)
                for name in random.Random(seed).sample(NAMES[:-1], 2):
                    try:
                        self.assertEqual(alike_programs(program, renamed(program, name, "zz"))[0], "alike")
                    except TooMany:
                        continue
                    many += 1
        self.assertGreater(many, 150)


class Needless(unittest.TestCase):
    def test_needless(self):
        listed = 0
        for seed in range(30):
            for make in MAKERS:
                program = make(seed)
                if not 0 < self.size(program) <= 4:
                    continue
                found = needless(program)
                want = [path for path in program.paths() if self.alike_without(program, path)]
                self.assertEqual(found, want, (make.__name__, seed))
                listed += len(found)
        self.assertGreater(listed, 100)

    def size(self, program):
        try:
            return len(graph(start(program)[1]))
        except TooMany:
            return 0

    def alike_without(self, program, path):
        """By rows of answers, or, where there are many of them, as alike tells."""
        try:
            other = Program(replaced(program.block(), path, []))
        except NoProgram:
            return False
        both = self.size(program) + self.size(other)
        if self.size(other) == 0:
            return False
        if both > 4:
            return alike_programs(program, other)[0] == "alike"
        one, two = Plain(program), Plain(other)
        return one.led([]).said == two.led([]).said and parting(one, [], two, [], both - 1) is None


if __name__ == "__main__":
    unittest.main()
