"""A second, plainly recursive way to run a program, to compare the package with.

It takes Python's own errors for give, leave and raise, and stops at a bound of statements. It keeps a stack of contexts,
of which a shape can be told, but it cannot go on from one: a run that is to go on is led again from its beginning.
"""

import sys

from rebuilding import body_of, with_body


class Thing:
    def __init__(self, kind, **fields):
        self.kind = kind
        self.__dict__.update(fields)


class Raised(Exception):
    def __init__(self, value):
        self.value = value


class Given(Exception):
    def __init__(self, value):
        self.value = value


class Left(Exception):
    pass


class Stopped(Exception):
    pass


class Env:
    def __init__(self, around):
        self.around = around
        self.vars = {}

    def holder(self, name):
        env = self
        while env is not None:
            if name in env.vars:
                return env
            env = env.around
        raise Raised("unset")


class Context:
    """What a frame is: path is that of its statement, kept is for the last blocks that are executed."""

    def __init__(self, env, home, first, makes=None, edition=0, code=()):
        self.env = env
        self.home = home
        self.first = first
        self.makes = makes
        self.edition = edition
        self.code = code
        self.path = None
        self.kept = []


class Teller:
    """Tells the shape of a stack of contexts."""

    def __init__(self):
        self.met = []

    def number(self, thing):
        if thing is None:
            return None
        for at, known in enumerate(self.met):
            if known is thing:
                return at
        self.met.append(thing)
        return len(self.met) - 1

    def value(self, value):
        if isinstance(value, bool):
            return ("yes",) if value else ("no",)
        if isinstance(value, Thing):
            return ("thing", self.number(value))
        return value

    def kept(self, kept):
        return tuple((one[0],) + tuple(self.value(value) for value in one[1:]) for one in kept)

    def rows(self, names):
        return tuple((name, self.value(names[name])) for name in sorted(names))

    def frame(self, ctx):
        env = self.number(ctx.env)
        kept = self.kept(ctx.kept)
        makes = self.number(ctx.makes)
        return (ctx.edition, ctx.path, env, kept, makes, self.number(ctx.home))

    def thing(self, thing):
        if isinstance(thing, Env):
            around = self.number(thing.around)
            return ("scope", around, self.rows(thing.vars))
        if thing.kind == "list":
            return ("list", tuple(self.value(item) for item in thing.items))
        if thing.kind == "table":
            return ("table", tuple((self.value(k), self.value(v)) for k, v in thing.rows.values()))
        if thing.kind == "bound":
            owner = self.number(thing.owner)
            return ("bound", owner, self.number(thing.function))
        if thing.kind == "function":
            env = self.number(thing.env)
            return ("function", thing.edition, thing.code, env, self.number(thing.home))
        if thing.kind == "class":
            over = self.number(thing.over)
            return ("class", over, tuple((name, self.number(thing.methods[name])) for name in sorted(thing.methods)))
        home = self.number(thing.home)
        return ("object", home, self.rows(thing.fields))

    def shape(self, stack):
        frames = tuple([self.frame(ctx) for ctx in stack])
        things = []
        while len(things) < len(self.met):
            things.append(self.thing(self.met[len(things)]))
        return frames, tuple(things)


def key_of(value):
    return (type(value).__name__, value)


def kind_of(value):
    if isinstance(value, Thing):
        return "function" if value.kind == "bound" else value.kind
    names = {type(None): "none", bool: "truth", int: "number", str: "text"}
    return names[type(value)]


def inner(value):
    kind = kind_of(value)
    if kind == "none":
        return "none"
    if kind == "truth":
        return {True: "yes", False: "no"}[value]
    if kind == "number":
        return "%d" % value
    if kind == "text":
        return "'" + value + "'"
    if kind == "list":
        return "[..]" if value.items else "[]"
    if kind == "table":
        return "{..}" if value.rows else "{}"
    return "<" + kind + ">"


def words_of(value):
    kind = kind_of(value)
    if kind == "text":
        return value
    if kind == "list":
        return "[%s]" % ", ".join(inner(v) for v in value.items)
    if kind == "table":
        return "{%s}" % ", ".join("%s: %s" % (inner(k), inner(v)) for k, v in value.rows.values())
    return inner(value)


def find_method(home, name):
    if home is None:
        return None
    return home.methods.get(name) or find_method(home.over, name)


def want(truth, text="kind"):
    if not truth:
        raise Raised(text)


class Oracle:
    """A run with a row of answers, among which (code, block) stands for an exchange at the next question.

    With rounds, it stops where a "while" is begun at a shape at which it was begun since the last question. begun tells
    of each path behind how many answers it was begun first; names, with watch, which words each name had there. shape,
    codes and found are what is told of the question at which the answers are used up, and of the names there; context is
    the newest one there.
    """

    def __init__(self, answers, bound=3000, rounds=False, watch=False):
        self.answers = list(answers)
        self.bound = bound
        self.rounds = rounds
        self.watch = watch
        self.editions = []
        self.functions = []
        self.count = 0
        self.asked = 0
        self.stack = []
        self.seen = []
        self.out = []
        self.shape = ((), ())
        self.codes = []
        self.context = None
        self.begun = {}
        self.names = {}
        self.found = {}

    def run(self, block):
        """The events; last ("bound",) where the bound was met."""
        before = sys.getrecursionlimit()
        sys.setrecursionlimit(20000)
        try:
            self.editions = [block]
            self.stack = [Context(Env(None), None, None)]
            self.block(block, self.stack[0], ())
            self.out.append(("ended",))
        except Raised as e:
            self.out.append(("failed", words_of(e.value)))
        except Stopped as e:
            self.out.append(e.args[0])
        finally:
            sys.setrecursionlimit(before)
        return self.out

    def block(self, block, ctx, around):
        for at, s in enumerate(block):
            self.statement(s, ctx, around + (at,))

    def value(self, e, ctx):
        return getattr(self, "e_" + e[0])(e, ctx)

    def e_none(self, e, ctx):
        return None

    def e_yes(self, e, ctx):
        return True

    def e_no(self, e, ctx):
        return False

    def e_number(self, e, ctx):
        return e[1]

    e_text = e_number

    def e_name(self, e, ctx):
        return ctx.env.holder(e[1]).vars[e[1]]

    def e_op(self, e, ctx):
        a = self.value(e[2], ctx)
        if e[1] in ("and", "or"):
            want(kind_of(a) == "truth")
            if a is (e[1] == "or"):
                return a
            b = self.value(e[3], ctx)
            want(kind_of(b) == "truth")
            return b
        b = self.value(e[3], ctx)
        kinds = (kind_of(a), kind_of(b))
        if e[1] == "==":
            return a is b if isinstance(a, Thing) or isinstance(b, Thing) else key_of(a) == key_of(b)
        if e[1] == "<":
            want(kinds in (("number", "number"), ("text", "text")))
            return a < b
        if kinds == ("text", "text") and e[1] == "+":
            want(len(a + b) <= 60, "great")
            return a + b
        want(kinds == ("number", "number"))
        result = {"+": a + b, "-": a - b, "*": a * b}[e[1]]
        want(abs(result) <= 10 ** 9, "great")
        return result

    def e_not(self, e, ctx):
        a = self.value(e[1], ctx)
        want(kind_of(a) == "truth")
        return not a

    def e_len(self, e, ctx):
        a = self.value(e[1], ctx)
        want(kind_of(a) in ("list", "table", "text"))
        return len(a) if isinstance(a, str) else len(a.items if a.kind == "list" else a.rows)

    def e_kind(self, e, ctx):
        return kind_of(self.value(e[1], ctx))

    def e_list(self, e, ctx):
        return Thing("list", items=[self.value(item, ctx) for item in e[1]])

    def e_table(self, e, ctx):
        table = Thing("table", rows={})
        for key, worth in e[1]:
            k = self.value(key, ctx)
            self.place(table, k, self.value(worth, ctx))
        return table

    def place(self, goal, key, value):
        if kind_of(goal) == "list" and kind_of(key) == "number":
            want(0 <= key < len(goal.items), "range")
            goal.items[key] = value
            return
        want(kind_of(goal) == "table" and not isinstance(key, Thing))
        want(key_of(key) in goal.rows or len(goal.rows) < 12, "great")
        goal.rows[key_of(key)] = (key, value)

    def e_get(self, e, ctx):
        a = self.value(e[1], ctx)
        if kind_of(a) == "object":
            if e[2] in a.fields:
                return a.fields[e[2]]
            method = find_method(a.home, e[2])
            want(method, "field")
            return Thing("bound", owner=a, function=method)
        want(kind_of(a) == "class")
        method = find_method(a, e[2])
        want(method, "field")
        return method

    def e_at(self, e, ctx):
        a = self.value(e[1], ctx)
        k = self.value(e[2], ctx)
        if kind_of(a) in ("list", "text"):
            row = a if isinstance(a, str) else a.items
            want(kind_of(k) == "number")
            want(0 <= k < len(row), "range")
            return row[k]
        want(kind_of(a) == "table" and not isinstance(k, Thing))
        want(key_of(k) in a.rows, "key")
        return a.rows[key_of(k)][1]

    def e_above(self, e, ctx):
        want(ctx.home, "field")
        owner = ctx.env.holder(ctx.first).vars[ctx.first]
        want(kind_of(owner) == "object")
        method = find_method(ctx.home.over, e[1])
        want(method, "field")
        return Thing("bound", owner=owner, function=method)

    def statement(self, s, ctx, path):
        self.begin(s, ctx, path)
        getattr(self, "s_" + s[0])(s, ctx, path)

    def begin(self, s, ctx, path):
        ctx.path = path
        if s[0] == "while" and self.rounds:
            self.look_back()
        if s[0] != "ask":
            if self.count == self.bound:
                raise Stopped(("bound",))
            self.count += 1
        self.begun.setdefault(path, self.asked)
        if self.watch:
            for name, words in self.visible(ctx.env).items():
                self.names.setdefault((path, name), set()).add(words)

    def look_back(self):
        shape = Teller().shape(self.stack)
        for known, many in self.seen:
            if known == shape:
                raise Stopped(("ever", self.out[many:]))
        self.seen.append((shape, len(self.out)))

    def assign(self, ctx, name, value):
        ctx.env.holder(name).vars[name] = value

    def s_let(self, s, ctx, path):
        ctx.env.vars[s[1]] = self.value(s[2], ctx)

    def s_set(self, s, ctx, path):
        self.assign(ctx, s[1], self.value(s[2], ctx))

    def s_put(self, s, ctx, path):
        a = self.value(s[1], ctx)
        b = self.value(s[3], ctx)
        want(kind_of(a) == "object")
        a.fields[s[2]] = b

    def s_place(self, s, ctx, path):
        self.place(*[self.value(e, ctx) for e in s[1:]])

    def s_add(self, s, ctx, path):
        a = self.value(s[1], ctx)
        b = self.value(s[2], ctx)
        want(kind_of(a) == "list")
        want(len(a.items) < 12, "great")
        a.items.append(b)

    def s_cut(self, s, ctx, path):
        a = self.value(s[1], ctx)
        want(kind_of(a) == "list")
        want(a.items, "range")
        a.items.pop()

    def s_say(self, s, ctx, path):
        self.out.append(("say", words_of(self.value(s[1], ctx))))

    def s_ask(self, s, ctx, path):
        self.count = 0
        self.seen = []
        while self.answers and isinstance(self.answers[0], tuple):
            self.exchange(*self.answers.pop(0))
        if not self.answers:
            self.stop(("wait", s[2]))
        self.asked += 1
        self.out.append(("ask", s[2]))
        self.assign(ctx, s[1], self.answers.pop(0))

    def stop(self, event):
        self.shape = Teller().shape(self.stack)
        self.codes = [one.code for one in self.stack]
        self.context = self.stack[-1]
        self.found = self.visible(self.context.env)
        raise Stopped(event)

    def exchange(self, code, block):
        """Makes an edition more, by going through all the functions and frames that there are."""
        newest = len(self.editions) - 1
        self.editions.append(with_body(self.editions[newest], code, block))
        for function in self.functions:
            within = len(function.code) > len(code) and function.code[:len(code)] == code
            if function.edition == newest and not within:
                function.edition += 1
        for one in self.stack:
            if one.edition == newest and one.code[:len(code)] != code:
                one.edition += 1

    def look(self, e):
        """What an expression comes to where the run stopped."""
        try:
            return ("value", words_of(self.value(e, self.context)))
        except Raised as raised:
            return ("error", words_of(raised.value))

    def visible(self, env):
        """The words of all names that can be looked up from a scope."""
        found = {} if env.around is None else self.visible(env.around)
        found.update({name: words_of(value) for name, value in env.vars.items()})
        return found

    def s_if(self, s, ctx, path):
        a = self.value(s[1], ctx)
        want(kind_of(a) == "truth")
        if a:
            self.block(s[2], ctx, path + (0,))
        else:
            self.block(s[3], ctx, path + (1,))

    def s_while(self, s, ctx, path):
        first = True
        while True:
            if not first:
                self.begin(s, ctx, path)
            first = False
            a = self.value(s[1], ctx)
            want(kind_of(a) == "truth")
            if not a:
                return
            try:
                self.block(s[2], ctx, path + (0,))
            except Left:
                return

    def s_leave(self, s, ctx, path):
        raise Left()

    def s_give(self, s, ctx, path):
        raise Given(self.value(s[1], ctx))

    def s_raise(self, s, ctx, path):
        raise Raised(self.value(s[1], ctx))

    def s_try(self, s, ctx, path):
        _, block, name, caught, last = s
        try:
            try:
                self.block(block, ctx, path + (0,))
            except Raised as e:
                if name is None:
                    raise
                ctx.env.vars[name] = e.value
                self.block(caught, ctx, path + (1,))
        except Raised as e:
            self.last(last, ctx, path, ("raise", e.value))
            raise
        except Given as e:
            self.last(last, ctx, path, ("give", e.value))
            raise
        except Left:
            self.last(last, ctx, path, ("leave",))
            raise
        self.last(last, ctx, path, ("on",))

    def last(self, block, ctx, path, kept):
        """A last block, for as long as this is kept; Python keeps what is on its way itself."""
        ctx.kept.append(kept)
        try:
            self.block(block, ctx, path + (2,))
        except (Raised, Given, Left):
            ctx.kept.pop()
            raise
        ctx.kept.pop()

    def function(self, ctx, params, home, code):
        """A function; its block is looked up when it is called, since that may be exchanged until then."""
        function = Thing("function", env=ctx.env, params=params, home=home, edition=ctx.edition, code=code)
        self.functions.append(function)
        return function

    def s_def(self, s, ctx, path):
        ctx.env.vars[s[1]] = self.function(ctx, s[2], None, path + (0,))

    def s_class(self, s, ctx, path):
        over = None
        if s[2] is not None:
            over = self.value(s[2], ctx)
            want(kind_of(over) == "class")
        home = Thing("class", over=over, methods={})
        for at, (name, params, _) in enumerate(s[3]):
            home.methods[name] = self.function(ctx, params, home, path + (at,))
        ctx.env.vars[s[1]] = home

    def invoke(self, function, values, makes=None):
        want(len(values) == len(function.params), "count")
        want(len(self.stack) < 20, "deep")
        env = Env(function.env)
        env.vars.update(zip(function.params, values))
        first = function.params[0] if function.params else None
        self.stack.append(Context(env, function.home, first, makes, function.edition, function.code))
        try:
            self.block(body_of(self.editions[function.edition], function.code), self.stack[-1], function.code)
            return None
        except Given as e:
            return e.value
        finally:
            self.stack.pop()

    def apply(self, callee, values):
        kind = kind_of(callee)
        if kind == "class":
            made = Thing("object", home=callee, fields={})
            method = find_method(callee, "make")
            if method:
                self.invoke(method, [made] + values, made)
            else:
                want(not values, "count")
            return made
        want(kind == "function")
        if callee.kind == "bound":
            return self.invoke(callee.function, [callee.owner] + values)
        return self.invoke(callee, values)

    def s_call(self, s, ctx, path):
        _, how, name, e, args = s
        callee = self.value(e, ctx)
        result = self.apply(callee, [self.value(a, ctx) for a in args])
        if how == "let":
            ctx.env.vars[name] = result
        elif how == "set":
            self.assign(ctx, name, result)
        elif how == "say":
            self.out.append(("say", words_of(result)))
        elif how == "give":
            raise Given(result)


class Stepping(Oracle):
    """A run with a row of deeds: None for a step, answers, and exchanges; it stops where the deeds are used up."""

    def begin(self, s, ctx, path):
        ctx.path = path
        if s[0] == "ask":
            return
        if not self.answers:
            self.stop(("ahead",))
        assert self.answers.pop(0) is None

    def told(self, block):
        """The event, and all the words said."""
        out = self.run(block)
        assert self.answers == [], self.answers
        event = ("ask", out[-1][1]) if out[-1][0] == "wait" else out[-1]
        return event, [event[1] for event in out if event[0] == "say"]
