"""Random programs, run by the package and by a second, plainly recursive interpreter."""

import unittest

from making import answers, made, made_flow
from oracle import Oracle
from plainly import shortest

from everyanswer.errors import TooMany
from everyanswer.machines import started
from everyanswer.runs import events
from everyanswer.shapes import shape_of


def plainly_led(machine):
    """What lead does, word by word as the document has it: a shape at each while."""
    seen = {}
    said = machine.take_told()
    steps = 0
    while machine.event() is None:
        if machine.stands_at_while():
            shape = shape_of(machine.frames)
            if shape in seen:
                ahead, rows = shortest(said[:seen[shape]], said[seen[shape]:])
                return ahead, ("ever", rows)
            seen[shape] = len(said)
        if steps == 3000:
            raise TooMany(3000)
        machine.step()
        steps += 1
        said += machine.take_told()
    return said, machine.event()


def plain_events(program, row):
    machine = started(program)
    out = []
    row = list(row)
    while True:
        said, event = plainly_led(machine)
        out += [("say", line) for line in said]
        if event[0] != "ask":
            return out + [event]
        if not row:
            return out + [("wait", event[1])]
        out.append(event)
        machine.answer(row.pop(0))


def found_by(function, program, row):
    try:
        return function(program, row)
    except TooMany as e:
        return e.many


class Random(unittest.TestCase):
    def compare(self, make, seeds):
        for seed in seeds:
            program = make(seed)
            row = answers(seed)
            want = Oracle(row).run(program.block())
            found = found_by(events, program, row)
            if want[-1] != ("bound",):
                self.assertEqual(found, want, seed)
            elif found != 3000:
                self.assertEqual(found[-1][0], "ever", seed)
                self.compare_words(found, want[:-1], seed)

    def compare_words(self, found, want, seed):
        """What a run that goes on for ever says, as far as the other one was led."""
        rows = found[-1][1]
        ahead = found[:-1]
        at = 0
        while rows and len(ahead) < len(want):
            ahead.append(("say", rows[at % len(rows)]))
            at += 1
        self.assertEqual(ahead[:len(want)], want, seed)

    def test_all_kinds(self):
        self.compare(made, range(400))

    def test_what_goes_out_of_blocks(self):
        self.compare(made_flow, range(400))

    def test_shapes_at_each_while(self):
        for seed in range(200):
            for make in (made, made_flow):
                program = make(seed)
                row = answers(seed)
                self.assertEqual(found_by(events, program, row), found_by(plain_events, program, row), seed)


if __name__ == "__main__":
    unittest.main()
