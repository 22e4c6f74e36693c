"""Random programs from a seed: valid ones, in which most names hold values of the kind that is wanted of them."""

import random

from everyanswer.errors import NoProgram
from everyanswer.programs import Program

NUMBERS = ["a", "b"]
TEXTS = ["t", "err"]
TRUTHS = ["q", "r"]
LISTS = ["l", "m"]
TABLES = ["d"]
FUNCTIONS = {"f": 1, "g": 0, "h": 2}
CLASSES = ["k", "j"]
OBJECTS = ["self", "o"]
METHODS = ["make", "f", "met", "a"]
NAMES = NUMBERS + TEXTS + TRUTHS + LISTS + TABLES + list(FUNCTIONS) + CLASSES + OBJECTS + ["make"]
PHRASES = ["", "a", "b", "ab", "unset", "kind", "a b 1", "abcdefghijklmnopqrst"]
KINDS = ["number", "number", "text", "truth", "list", "table", "object", "any"]


class Maker:
    def __init__(self, seed):
        self.random = random.Random(seed)
        self.left = 0
        self.method = False

    def pick(self, *choices):
        return self.random.choice(choices)

    def one_of(self, choices):
        return self.random.choice(choices)

    def chance(self, share):
        return self.random.random() < share

    def expression(self, kind, depth):
        """An expression that mostly gives a value of this kind, at most so high."""
        if kind == "any" or self.chance(0.04):
            kind = self.one_of(KINDS[:-1])
        if depth == 1 or self.chance(0.35):
            return self.plain(kind)
        return getattr(self, "of_" + kind)(depth - 1)

    def plain(self, kind):
        names = {"number": NUMBERS, "text": TEXTS, "truth": TRUTHS, "list": LISTS, "table": TABLES,
                 "object": OBJECTS}[kind]
        if self.chance(0.03):
            return ("none",)
        if kind in ("list", "table", "object") or self.chance(0.5):
            return ("name", self.one_of(names))
        if kind == "number":
            return ("number", self.pick(0, 1, 2, 3, 7, 12, 60, 999))
        if kind == "text":
            return ("text", self.one_of(PHRASES))
        return (self.pick("yes", "no"),)

    def of_number(self, depth):
        kind = self.random.randrange(6)
        if kind < 3:
            return ("op", self.pick("+", "-", "*"), self.expression("number", depth), self.expression("number", depth))
        if kind < 4:
            return ("len", self.expression(self.pick("text", "list", "table"), depth))
        return self.item(depth)

    def item(self, depth):
        kind = self.random.randrange(4)
        if kind < 1:
            return ("at", self.expression("list", depth), self.expression("number", depth))
        if kind < 2:
            return ("at", self.expression("table", depth), self.key(depth))
        if kind < 3:
            return ("at", self.expression("text", depth), self.expression("number", depth))
        return ("get", self.expression("object", depth), self.one_of(NUMBERS))

    def key(self, depth):
        return self.expression(self.pick("number", "text", "truth"), depth)

    def of_text(self, depth):
        if self.chance(0.3):
            return ("kind", self.expression("any", depth))
        return ("op", "+", self.expression("text", depth), self.expression("text", depth))

    def of_truth(self, depth):
        kind = self.random.randrange(5)
        if kind < 1:
            return ("not", self.expression("truth", depth))
        if kind < 2:
            return ("op", self.pick("and", "or"), self.expression("truth", depth), self.expression("truth", depth))
        same = self.pick("number", "text")
        if kind < 3:
            return ("op", "<", self.expression(same, depth), self.expression(same, depth))
        same = self.one_of(KINDS)
        return ("op", "==", self.expression(same, depth), self.expression(same, depth))

    def of_list(self, depth):
        return ("list", [self.expression("any", depth) for _ in range(self.random.randrange(5))])

    def of_table(self, depth):
        return ("table", [(self.key(depth), self.expression("any", depth)) for _ in range(self.random.randrange(5))])

    def of_object(self, depth):
        return self.plain("object")

    def pair(self):
        """A name and the kind that is wanted of it."""
        name = self.one_of(NUMBERS + TEXTS + TRUTHS + LISTS + TABLES + OBJECTS)
        for kind, names in (("number", NUMBERS), ("text", TEXTS), ("truth", TRUTHS), ("list", LISTS),
                            ("table", TABLES)):
            if name in names:
                return name, kind
        return name, "object"

    def params(self, least, most):
        return self.random.sample(NUMBERS + TRUTHS + LISTS, self.random.randrange(least, most + 1))

    def statement(self, depth, routine, looping):
        words = ["let"] * 4 + ["set"] * 4 + ["put", "place", "add", "add", "cut", "raise"] + ["say"] * 5 + ["ask"] * 2
        words += ["call"] * 7
        if looping:
            words += ["leave"] * 3
        if routine != "top":
            words += ["give"] * 2
        if depth < 8:
            words += ["if"] * 3 + ["while"] * 2 + ["try"] * 5 + ["def"] * 2 + ["class"]
        word = self.one_of(words)
        if word in ("call", "if", "while", "try", "def", "class"):
            return getattr(self, "a_" + word)(depth, routine, looping)
        return self.simple(word)

    def simple(self, word):
        high = self.pick(1, 2, 2, 3, 5)
        if word in ("let", "set"):
            name, kind = self.pair()
            return (word, name, self.expression(kind, high))
        if word == "put":
            name, kind = self.pair()
            return (word, self.expression("object", 2), name, self.expression(kind, 2))
        if word == "place":
            if self.chance(0.4):
                return (word, self.expression("list", 1), self.expression("number", 1), self.expression("any", 2))
            return (word, self.expression("table", 1), self.key(2), self.expression("any", 2))
        if word == "add":
            return (word, self.expression("list", 1), self.expression("any", 2))
        if word == "cut":
            return (word, self.expression("list", 1))
        if word in ("say", "give", "raise"):
            return (word, self.expression("any", high))
        if word == "ask":
            return (word, self.one_of(TRUTHS), self.one_of(PHRASES))
        return (word,)

    def a_call(self, depth, routine, looping):
        how = self.pick("let", "set", "drop", "say", "give" if routine != "top" else "say")
        callee, many = self.callee(routine)
        name = self.one_of(NUMBERS) if how in ("let", "set") else None
        if callee[0] == "name" and callee[1] in CLASSES and self.chance(0.8):
            how, name = "let", self.one_of(OBJECTS)
        if self.chance(0.1):
            many = self.random.randrange(4)
        return ("call", how, name, callee, [self.expression("number", 1) for _ in range(many)])

    def callee(self, routine):
        kind = self.random.randrange(8)
        if kind < 4:
            name = self.one_of(list(FUNCTIONS))
            return ("name", name), FUNCTIONS[name]
        if kind < 5:
            return ("name", self.one_of(CLASSES)), self.random.randrange(2)
        if kind < 7 and routine == "method":
            return ("above", self.one_of(METHODS)), self.random.randrange(2)
        if kind < 7:
            return ("get", ("name", self.one_of(OBJECTS)), self.one_of(METHODS)), self.random.randrange(2)
        return ("get", ("name", self.one_of(CLASSES)), self.one_of(METHODS)), 1

    def a_if(self, depth, routine, looping):
        truth = self.expression("truth", self.pick(1, 2, 3))
        return ("if", truth, self.block(depth + 1, routine, looping), self.block(depth + 1, routine, looping))

    def a_while(self, depth, routine, looping):
        return ("while", self.expression("truth", self.pick(1, 2, 3)), self.block(depth + 1, routine, True))

    def a_try(self, depth, routine, looping):
        name = self.pick(None, None, "err", "err", "a")
        caught = [] if name is None else self.block(depth + 1, routine, looping)
        last = self.block(depth + 1, routine, looping)
        if name is None and last == []:
            last = [("say", ("text", "last"))]
        return ("try", self.block(depth + 1, routine, looping), name, caught, last)

    def a_def(self, depth, routine, looping):
        name = self.one_of(list(FUNCTIONS))
        many = FUNCTIONS[name]
        return ("def", name, self.params(many, many), self.block(depth + 1, "def", False))

    def a_class(self, depth, routine, looping):
        over = self.pick(None, ("name", "k"), ("name", "j"))
        return ("class", self.one_of(CLASSES), over, self.methods(depth))

    def methods(self, depth):
        names = self.random.sample(METHODS, self.random.randrange(4))
        return [(name, ["self"] + self.params(0, 1), self.block(depth + 1, "method", False)) for name in names]

    def block(self, depth, routine, looping):
        out = []
        most = self.pick(0, 1, 2, 2, 3, 4)
        while len(out) < most and self.left > 0:
            self.left -= 1
            statement = self.statement(depth, routine, looping)
            if depth < 7 and self.chance(0.25):
                statement = self.guarded(statement)
            out.append(statement)
        return out

    def guarded(self, statement):
        """The statement in a try that says the error, so that a run goes on behind it."""
        self.left -= 2
        return ("try", [statement], "err", [("say", ("list", [("name", "err")]))], [])

    def start(self):
        """A statement that gives names their first values."""
        self.left -= 8
        out = [("let", name, ("number", self.random.randrange(4))) for name in NUMBERS]
        out += [("let", name, ("text", self.one_of(PHRASES))) for name in TEXTS]
        out += [("let", name, (self.pick("yes", "no"),)) for name in TRUTHS]
        out += [("let", name, ("list", [("number", 2)])) for name in LISTS] + [("let", "d", ("table", []))]
        return ("if", ("yes",), out, [])

    def small_block(self, routine):
        """A block of a code of its own, so small that others have room beside it."""
        self.left = self.random.randrange(1, 8)
        return self.block(2, routine, False)

    def top(self):
        out = [self.start()]
        out += [("def", name, self.params(many, many), self.small_block("def")) for name, many in FUNCTIONS.items()]
        for name, over in (("k", None), ("j", ("name", "k"))):
            names = self.random.sample(METHODS, 2)
            out.append(("class", name, over, [(m, ["self"] + self.params(0, 1), self.small_block("method"))
                                              for m in names]))
        out.append(self.guarded(("call", "let", "o", ("name", "j"), [])))
        self.left = 40
        while len(out) < 12:
            statement = self.statement(2, "top", False)
            if self.chance(0.8):
                statement = self.guarded(statement)
            out.append(statement)
        return out


def made(seed):
    """A random program."""
    maker = Maker(seed)
    while True:
        try:
            return Program(maker.top())
        except NoProgram:
            continue


def answers(seed):
    """A random row of answers."""
    source = random.Random(seed)
    return [source.random() < 0.5 for _ in range(source.randrange(8))]


class FlowMaker(Maker):
    """Makes programs in which little fails but by raise: blocks within blocks with give, leave and raise in them."""

    def said(self):
        return ("say", ("number", self.random.randrange(10)))

    def statement(self, depth, routine, looping):
        words = ["say"] * 3 + ["raise", "ask", "call", "call", "count"]
        if looping:
            words += ["leave"] * 3
        if routine != "top":
            words += ["give"] * 3
        if depth < 8:
            words += ["if"] * 2 + ["while"] * 2 + ["try"] * 6
        word = self.one_of(words)
        if word == "say":
            return self.said()
        if word == "raise":
            return ("raise", ("text", self.pick("a", "b")))
        if word == "ask":
            return ("ask", "q", "q")
        if word == "call":
            how = self.pick("say", "drop", "give" if routine != "top" else "say")
            return ("call", how, None, ("name", self.pick("f", "g", "h", "k")), [])
        if word == "count":
            return ("set", "a", ("op", "+", ("name", "a"), ("number", 1)))
        if word == "leave":
            return ("leave",)
        if word == "give":
            return ("give", self.pick(("number", 1), ("text", "given"), ("name", "a")))
        return getattr(self, "a_" + word)(depth, routine, looping)

    def truth(self):
        return self.pick(("name", "q"), ("not", ("name", "q")), ("yes",),
                         ("op", "<", ("name", "a"), ("number", self.random.randrange(4, 20))))

    def a_if(self, depth, routine, looping):
        return ("if", self.truth(), self.block(depth + 1, routine, looping), self.block(depth + 1, routine, looping))

    def a_while(self, depth, routine, looping):
        return ("while", self.truth(), self.block(depth + 1, routine, True))

    def a_try(self, depth, routine, looping):
        name = self.pick(None, "c", "c")
        caught = [] if name is None else self.block(depth + 1, routine, looping)
        last = self.block(depth + 1, routine, looping)
        if name is None and last == []:
            last = [self.said()]
        return ("try", self.block(depth + 1, routine, looping), name, caught, last)

    def guarded(self, statement):
        self.left -= 1
        return ("try", [statement], "c", [], [("say", ("text", "last"))])

    def top(self):
        out = [("let", "a", ("number", 0)), ("let", "q", ("yes",))]
        for name in ("f", "g", "h"):
            out.append(("def", name, [], self.small_block("def")))
        out.append(("class", "k", None, [("make", ["self"], self.small_block("method"))]))
        self.left = 30
        while len(out) < 12:
            out.append(self.statement(1, "top", False))
        return out


def made_flow(seed):
    """A random program that is mostly about what goes out of blocks."""
    maker = FlowMaker(seed)
    while True:
        try:
            return Program(maker.top())
        except NoProgram:
            continue
