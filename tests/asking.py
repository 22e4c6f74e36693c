"""Random programs that ask much and hold little, so that most of their graphs are small."""

import random

from making import Maker
from rebuilding import replaced

from everyanswer.errors import NoProgram
from everyanswer.programs import Program

TRUTHS = ["q", "r"]


class AskMaker(Maker):
    def word(self):
        return self.pick("x", "x", "x", "y")

    def said(self):
        return ("say", self.pick(("text", self.word()), ("name", "q"), ("name", "a"), ("name", "l"), ("name", "c")))

    def truth(self):
        return self.pick(("name", "q"), ("name", "r"), ("not", ("name", "q")), ("op", "==", ("name", "a"), ("number", 1)),
                         ("op", "==", ("name", "l"), ("name", "m")), ("op", "and", ("name", "q"), ("name", "r")))

    def change(self):
        """A statement that gives a name another value, of which there are few."""
        return self.pick(
            ("set", "a", ("op", "-", ("number", 1), ("name", "a"))),
            ("set", "l", ("list", [("name", self.pick("q", "a"))])),
            ("set", "m", ("name", "l")),
            ("set", "r", ("op", "==", ("name", "q"), ("name", "r"))),
            ("set", "q", ("not", ("name", "q"))),
            ("place", ("name", "l"), ("number", 0), ("name", self.pick("l", "a", "r"))),
            ("place", ("name", "t"), ("name", "q"), ("name", self.pick("a", "l"))),
            ("set", "o", ("list", [])),
            ("put", ("name", "o"), "b", ("name", self.pick("q", "l", "o"))),
            ("let", self.pick("a", "q", "l"), ("name", self.pick("a", "r", "l"))),
            ("set", "f", ("name", "g")),
            ("set", "k", ("name", "j")),
        )

    def statement(self, depth, routine, looping):
        words = ["say"] * 3 + ["ask"] * 5 + ["call"] * 4 + ["change"] * 4 + ["raise"]
        if looping:
            words += ["leave"] * 2
        if routine != "top":
            words += ["give"] * 2
        if depth < 7:
            words += ["if"] * 5 + ["while"] * 3 + ["try"] * 4 + ["def"]
        word = self.one_of(words)
        if word == "say":
            return self.said()
        if word == "ask":
            return ("ask", self.one_of(TRUTHS), self.word())
        if word == "change":
            return self.change()
        if word == "call":
            return self.call(routine)
        if word == "leave":
            return ("leave",)
        if word in ("raise", "give"):
            return (word, self.pick(("text", self.word()), ("name", "q"), ("name", "l")))
        return getattr(self, "a_" + word)(depth, routine, looping)

    def call(self, routine):
        how = self.pick("say", "drop", "drop", "give" if routine != "top" else "set")
        name = self.pick("q", "l") if how == "set" else None
        callee = self.pick(("name", "f"), ("name", "g"), ("get", ("name", "o"), "met"), ("name", "k"))
        if callee == ("name", "k"):
            how, name = "set", "o"
        if routine == "method" and self.chance(0.3):
            callee = ("above", self.pick("make", "met"))
        return ("call", how, name, callee, [])

    def a_if(self, depth, routine, looping):
        return ("if", self.truth(), self.block(depth + 1, routine, looping), self.block(depth + 1, routine, looping))

    def a_while(self, depth, routine, looping):
        block = self.block(depth + 1, routine, True)
        if self.chance(0.7):
            block = [("ask", self.one_of(TRUTHS), self.word())] + block
        return ("while", self.pick(self.truth(), ("yes",)), block)

    def a_try(self, depth, routine, looping):
        name = self.pick(None, "c", "c", "q")
        caught = [] if name is None else self.block(depth + 1, routine, looping)
        last = self.block(depth + 1, routine, looping)
        if name is None and last == []:
            last = [("ask", "r", "last")]
        return ("try", self.block(depth + 1, routine, looping), name, caught, last)

    def a_def(self, depth, routine, looping):
        return ("def", self.pick("f", "g"), [], self.block(depth + 1, "def", False))

    def routine(self, routine):
        self.left = self.random.randrange(1, 7)
        return self.block(2, routine, False)

    def top(self):
        first = [("let", "q", ("no",)), ("let", "r", ("yes",)), ("let", "a", ("number", 0)), ("let", "l", ("list", [])),
                 ("let", "m", ("list", [])), ("let", "c", ("none",)), ("let", "t", ("table", []))]
        out = [("if", ("yes",), first, [])]
        for word in ("f", "g"):
            out.append(("def", word, [], self.routine("def")))
        out.append(("class", "j", None, [("met", ["self"], self.routine("method")), ("make", ["q"], self.routine("method"))]))
        out.append(("class", "k", ("name", "j"), [("met", ["self"], self.routine("method"))]))
        out.append(("try", [("call", "let", "o", ("name", "k"), [])], "c", [("let", "o", ("none",))], []))
        self.left = 24
        while len(out) < 10:
            statement = self.statement(2, "top", False)
            if self.chance(0.6):
                statement = ("try", [statement], "c", [], [])
            out.append(statement)
        return out


def asking(seed):
    """A random program that asks much."""
    maker = AskMaker(seed)
    while True:
        try:
            return Program(maker.top())
        except NoProgram:
            continue


def varied(program, seed, paths):
    """A program that differs from this one in the statement at one of these paths; often it goes on alike."""
    source = random.Random(seed)
    while True:
        path = source.choice(paths)
        kind = source.choice(["wrapped", "turned", "cut", "twice", "answer"])
        try:
            return Program(replaced(program.block(), path, instead(program[path], kind)))
        except NoProgram:
            continue


def instead(statement, kind):
    """What stands in the place of a statement."""
    if kind == "cut":
        return []
    if kind == "twice":
        return [statement, statement]
    if kind == "turned" and statement[0] == "if":
        return [("if", ("not", statement[1]), statement[3], statement[2])]
    if kind == "answer" and statement[0] == "ask":
        return [statement, ("set", statement[1], ("not", ("name", statement[1])))]
    return [("if", ("yes",), [statement], [])]
