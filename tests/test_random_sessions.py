"""Random programs: sessions, exchanges and looks against a second interpreter that is led anew each time."""

import random
import unittest

from asking import asking
from making import NAMES, Maker, answers, made, made_flow
from oracle import Stepping
from plainly import Bound, Led, Plain, parting
from rebuilding import body_of, with_body

from everyanswer.errors import NoProgram, NotAsked, TooMany
from everyanswer.exchange import exchanged, safe
from everyanswer.graphs import graph
from everyanswer.looks import reached, sharing
from everyanswer.moments import start
from everyanswer.programs import Program
from everyanswer.runs import events
from everyanswer.sessions import Session

MAKERS = (asking, made, made_flow)
# No more steps are gone over anew; a session may take more of them.
MOST = 250


class Stop(Exception):
    """What an action in a session ends with now and then."""


def bodies(program, code, source):
    """A block to be put in the place of that of a code: also one that does not fit there."""
    body = program.body(code)
    other = program.body(source.choice(program.codes()))
    some = source.randrange(len(body) + 1)
    return source.choice([
        body, [], other, body[:some], body[:some] + [("say", ("text", "new"))] + body[some:],
        [("if", ("yes",), body, [])], [("ask", "q", "new")] + body, body + other + body, [("leave",)], body + [("say",)],
        None, tuple(body),
    ])


def fault(block):
    """The path of NoProgram for a block, or None."""
    try:
        Program(block)
    except NoProgram as e:
        return e.path
    return None


class Walk:
    """Leads a session at random, and beside it the row of what was done."""

    def __init__(self, test, program, seed):
        self.test = test
        self.program = program
        self.source = random.Random(seed)
        self.maker = Maker(seed)
        self.session = Session(program)
        self.deeds = []
        self.kinds = set()

    def check(self):
        session = self.session
        stepping = Stepping(self.deeds)
        event, said = stepping.told(self.program.block())
        path = stepping.context.path if stepping.context else None
        got = (session.event(), session.path(), session.codes(), session.shape(), session.said(), len(session))
        self.test.assertEqual(got, (event, path, stepping.codes, stepping.shape, said, len(self.deeds)))
        if stepping.context:
            for e in self.looks():
                self.test.assertEqual(session.look(e), stepping.look(e), e)
            self.test.assertEqual(session.shape(), stepping.shape)
        if event == ("ahead",):
            self.test.assertRaises(NotAsked, session.moment)
            return
        moment = session.moment()
        got = (moment.event(), moment.shape(), moment.programs())
        self.test.assertEqual(got, (event, stepping.shape, [Program(block) for block in stepping.editions]))

    def looks(self):
        maker = self.maker
        return [maker.expression("any", maker.pick(1, 2, 4)), ("above", maker.pick("make", "met")),
                ("get", ("name", maker.pick("self", "o")), maker.pick("make", "a")), ("name", maker.one_of(NAMES))]

    def lead(self, many):
        """Does so many deeds, of which each is checked."""
        for _ in range(many):
            kind = self.source.choice(self.choices())
            self.kinds.add(kind)
            before = self.session.said()
            said = getattr(self, kind)()
            if said is not None:
                self.test.assertEqual(before + said, self.session.said())
            self.check()

    def choices(self):
        event = self.session.event()
        out = ["back"] if self.deeds else []
        if event[0] == "ahead":
            out += ["step"] * 8 + ["go"] * (2 if len(self.deeds) < MOST else 0)
        if event[0] == "ask":
            out += ["answer"] * 6 + ["exchange"] * 3
        return out + ["several"] + ["tried"] * 2

    def step(self):
        self.deeds.append(None)
        return self.session.step()

    def answer(self):
        self.deeds.append(self.source.random() < 0.5)
        return self.session.answer(self.deeds[-1])

    def go(self):
        many = len(self.session)
        try:
            said = self.session.go()
        except TooMany as e:
            self.test.assertEqual((e.many, len(self.session)), (3000, many + 3000))
            for _ in range(3000):
                self.session.back()
            return None
        self.deeds += [None] * (len(self.session) - many)
        return said

    def back(self):
        self.test.assertIsNone(self.session.back())
        self.deeds.pop()

    def several(self):
        for _ in range(self.source.randrange(len(self.deeds) + 1)):
            self.back()

    def exchange(self):
        editions = self.session.moment().programs()
        code = self.source.choice(editions[-1].codes()[1:])
        block = bodies(editions[-1], code, self.source)
        wrong = code[:-1]
        if isinstance(block, list):
            wrong = fault(with_body(editions[-1].block(), code, block))
        if wrong is None:
            self.test.assertIsNone(self.session.exchange(code, block))
            self.deeds.append((code, block))
            return
        with self.test.assertRaises(NoProgram) as caught:
            self.session.exchange(code, block)
        self.test.assertEqual(caught.exception.path, wrong)

    def tried(self):
        kept = list(self.deeds)
        fails = self.source.random() < 0.4

        def action(session):
            self.test.assertIs(session, self.session)
            self.lead(self.source.randrange(4))
            if fails:
                raise Stop()
            return self.deeds

        try:
            self.test.assertIs(self.session.tried(action), self.deeds)
            self.test.assertFalse(fails)
        except Stop:
            self.test.assertTrue(fails)
        self.deeds = kept


class Sessions(unittest.TestCase):
    def test_walks(self):
        kinds = set()
        editions = 0
        for seed in range(60):
            for make in MAKERS:
                with self.subTest(make=make.__name__, seed=seed):
                    walk = Walk(self, make(seed), seed)
                    walk.check()
                    walk.lead(25)
                    kinds |= walk.kinds
                    editions = max(editions, sum(isinstance(deed, tuple) for deed in walk.deeds))
        self.assertEqual(kinds, {"step", "answer", "go", "back", "several", "exchange", "tried"})
        self.assertGreater(editions, 2)

    def test_all_the_way_there_and_back(self):
        for seed in range(40):
            for make in MAKERS:
                self.there_and_back(Session(make(seed)), answers(seed))

    def there_and_back(self, session, row):
        places = []
        deeds = []
        while session.event()[0] in ("ahead", "ask") and len(places) < 400:
            places.append(self.place(session))
            if session.event() == ("ahead",):
                deeds.append(None)
                session.step()
            elif row:
                deeds.append(row.pop())
                session.answer(deeds[-1])
            else:
                break
        end = self.place(session)
        for place in places[len(deeds) - 1::-1] if deeds else []:
            session.back()
            self.assertEqual(self.place(session), place)
        for deed, place in zip(deeds, places):
            self.assertEqual(self.place(session), place)
            session.step() if deed is None else session.answer(deed)
        self.assertEqual(self.place(session), end)

    def place(self, session):
        return session.event(), session.path(), session.codes(), session.shape(), session.said(), len(session)

    def test_as_events_and_moments_tell(self):
        for seed in range(150):
            for make in MAKERS:
                self.compare(make(seed), answers(seed), (make.__name__, seed))

    def compare(self, program, row, why):
        """A session against events, start and answered, as far as the run does not go on for ever."""
        session = Session(program)
        told = []
        moment = None
        for at in range(len(row) + 1):
            try:
                said, moment = moment.answered(row[at - 1]) if moment else start(program)
            except TooMany:
                if at:
                    session.answer(row[at - 1])
                self.assertRaises(TooMany, session.go)
                self.assertRaises(TooMany, events, program, row[:at])
                return
            words = session.answer(row[at - 1]) if at else []
            if moment.event()[0] == "ever":
                self.assertRaises(TooMany, session.go)
                return
            words += session.go()
            self.assertEqual((words, session.event()), (said, moment.event()), why)
            self.assertTrue(session.moment() == moment, why)
            told += [("say", line) for line in words]
            if moment.event()[0] != "ask":
                break
            if at < len(row):
                told.append(moment.event())
        last = session.event()
        self.assertEqual(told + [("wait", last[1]) if last[0] == "ask" else last], events(program, row), why)


class Exchange(unittest.TestCase):
    def test_moments(self):
        """Several exchanges at one question and at later ones."""
        many = 0
        for seed in range(120):
            for make in MAKERS:
                source = random.Random(seed)
                program = make(seed)
                try:
                    _, moment = start(program)
                    many += self.follow(program, moment, source, (make.__name__, seed))
                except TooMany:
                    continue
        self.assertGreater(many, 200)

    def follow(self, program, moment, source, why):
        deeds = []
        found = 0
        while moment.event()[0] == "ask" and len(deeds) < 8:
            if source.random() < 0.5:
                editions = moment.programs()
                code = source.choice(editions[-1].codes()[1:])
                block = bodies(editions[-1], code, source)
                before = (moment.event(), moment.shape(), editions)
                if not isinstance(block, list) or fault(with_body(editions[-1].block(), code, block)) is not None:
                    self.assertRaises(NoProgram, exchanged, moment, code, block)
                    continue
                later = exchanged(moment, code, block)
                self.assertEqual((moment.event(), moment.shape(), moment.programs()), before)
                self.assertEqual(later.programs(), editions + [Program(with_body(editions[-1].block(), code, block))])
                self.assertFalse(later == moment)
                moment = later
                deeds.append((code, block))
                found += 1
            else:
                deeds.append(source.random() < 0.5)
                said, moment = moment.answered(deeds[-1])
                self.assertEqual(said, Led(program, deeds).said, why)
            led = Led(program, deeds)
            self.assertEqual((moment.event(), moment.shape()), (led.event, led.shape), why)
            for name in NAMES:
                self.assertEqual(moment.value(name), led.found.get(name))
        return found

    def test_safe(self):
        found = set()
        for seed in range(170):
            program = asking(seed)
            many = self.size(lambda: start(program)[1])
            moment = start(program)[1] if 0 < many <= 5 else None
            if moment is None or moment.event()[0] != "ask":
                continue
            source = random.Random(seed)
            for code in program.codes()[1:]:
                found.add(self.judge(program, moment, many, code, bodies(program, code, source)))
        self.assertTrue({("alike", 2), ("alike", 3), ("apart", 1), ("apart", 2)} <= found, found)

    def size(self, led):
        """How many moments the graph of the moment has that is led to; 0 if there is none or there are too many."""
        try:
            return len(graph(led()))
        except (NoProgram, TooMany):
            return 0

    def judge(self, program, moment, many, code, block):
        both = many + self.size(lambda: exchanged(moment, code, block))
        if not many < both <= 8:
            return None
        got = safe(moment, code, block)
        plain = Plain(program)
        want = parting(plain, [], plain, [(code, block)], both - 1)
        if want is None:
            self.assertEqual(got[0], "alike")
        else:
            self.assertEqual(got, ("apart", want))
        if block == body_of(program.block(), code):
            self.assertEqual(got, ("alike", [(at, at) for at in range(many)]))
        return (got[0], len(got[1]))


class Looks(unittest.TestCase):
    def test_moments(self):
        shared = 0
        for seed in range(150):
            for make in MAKERS:
                program = make(seed)
                row = answers(seed)
                try:
                    _, moment = start(program)
                    for at in range(len(row) + 1):
                        led = Led(program, row[:at])
                        shared += self.compare(moment, led.shape)
                        if led.asks and at < len(row):
                            _, moment = moment.answered(row[at])
                except (Bound, TooMany):
                    continue
        self.assertGreater(shared, 50)

    def compare(self, moment, shape):
        """Compares what is told of a moment with what its shape tells; how many pairs of names share a thing."""
        self.assertEqual(reached(moment), (len(shape[0]), len(shape[1])))
        shared = 0
        for one in NAMES:
            for other in NAMES:
                got = sharing(moment, one, other)
                self.assertIs(got, self.same(shape, one, other))
                shared += got and one != other
        return shared

    def same(self, shape, one, other):
        """By the shape: whether both names have the same number of a thing, from the newest frame's scope outwards."""
        found = []
        for name in (one, other):
            at = shape[0][-1][2] if shape[0] else None
            while at is not None and name not in dict(shape[1][at][2]):
                at = shape[1][at][1]
            value = dict(shape[1][at][2])[name] if at is not None else None
            found.append(value if isinstance(value, tuple) and value[0] == "thing" else None)
        return found[0] is not None and found[0] == found[1]


if __name__ == "__main__":
    unittest.main()
