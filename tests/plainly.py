"""What holds for moments and for rows of answers, reckoned plainly: each run is led anew, from its beginning.

Rows of answers are gone through one after the other, as far as the size of the graphs makes it needful.
"""

from itertools import product

from oracle import Oracle


class Bound(Exception):
    """A run with more than 3000 statements behind a question."""


def shortest(ahead, rows):
    """The shortest lists, looked for one after the other."""
    if not rows:
        return ahead, []
    whole = ahead + rows * 3
    end = len(ahead) + 2 * len(rows)
    for first in range(len(ahead) + 1):
        for size in range(1, len(rows) + 1):
            if all(whole[at] == whole[at + size] for at in range(first, end)):
                return whole[:first], whole[first:first + size]
    raise AssertionError()


class Led:
    """A program that was led with a row of answers: what it said behind the last one, and the moment there."""

    def __init__(self, program, row, watch=False):
        oracle = Oracle(row, rounds=True, watch=watch)
        out = oracle.run(program.block())
        self.event = out[-1]
        if self.event == ("bound",):
            raise Bound()
        asked = [at for at, event in enumerate(out) if event[0] == "ask"]
        self.said = [event[1] for event in out[asked[-1] + 1 if asked else 0:-1]]
        if self.event[0] == "ever":
            rows = [event[1] for event in self.event[1]]
            self.said, rows = shortest(self.said[:len(self.said) - len(rows)], rows)
            self.event = ("ever", rows)
        if self.event[0] == "wait":
            self.event = ("ask", self.event[1])
        self.asks = self.event[0] == "ask"
        self.shape = oracle.shape
        self.found = oracle.found
        self.begun = oracle.begun
        self.names = oracle.names
        self.used = len(row) - len(oracle.answers)


def rows_up_to(many):
    """All rows of at most so many answers, the shortest ones first, as Python orders lists."""
    return [list(row) for size in range(many + 1) for row in product((False, True), repeat=size)]


class Plain:
    """A program, and what is reckoned of it; rows of answers are led once."""

    def __init__(self, program):
        self.program = program
        self.known = {}

    def led(self, row):
        if repr(row) not in self.known:
            self.known[repr(row)] = Led(self.program, row)
        return self.known[repr(row)]

    def graph(self, most):
        """The rows of answers that lead to the moments of the graph first, and the graph."""
        rows = [[]]
        moments = [self.led([])]
        behind = []
        while len(behind) < len(rows):
            found = []
            at = len(behind)
            for answer in (False, True) if moments[at].asks else ():
                goal = self.led(rows[at] + [answer])
                same = [k for k, known in enumerate(moments) if (known.shape, known.event) == (goal.shape, goal.event)]
                if not same:
                    same = [len(moments)]
                    rows.append(rows[at] + [answer])
                    moments.append(goal)
                if len(moments) > most:
                    raise OverflowError()
                found.append((goal.said, same[0]))
            behind.append(found)
        return rows, [(led.shape, led.event, runs) for led, runs in zip(moments, behind)]

    def ever(self, path, many):
        """What ever returns for a graph with so many moments."""
        for row in rows_up_to(many):
            if path in self.led(row).begun:
                return ("answers", row)
        return ("never", many)

    def always(self, path, many):
        """What always returns for a graph with so many moments, or None if the statement can be avoided."""
        most = 0
        for row in product((False, True), repeat=many):
            begun = self.led(list(row)).begun
            if path not in begun:
                return None
            most = max(most, begun[path])
        return ("always", most)

    def avoids_fault(self, path, row, turn, many):
        """What avoids_fault returns, by as many rounds as can make a difference."""
        whole = row + turn * (many + 1)
        for at in range(len(whole)):
            if not self.led(whole[:at]).asks:
                return ("ended", at if at < len(row) else len(row) + (at - len(row)) % len(turn))
        led = self.led(whole)
        if led.asks and turn == []:
            return ("open",)
        return ("begun",) if path in led.begun else None

    def values(self, many):
        """For paths and names the words, as values lists them."""
        out = {}
        for row in product((False, True), repeat=many):
            for key, words in Led(self.program, list(row), watch=True).names.items():
                out.setdefault(key, set()).update(words)
        return {key: sorted(words) for key, words in out.items()}


def parting(one, ahead, other, beside, many):
    """The first shortest row, of at most so many answers, that parts two programs behind these rows, or None."""
    for row in rows_up_to(many):
        left = one.led(ahead + row)
        right = other.led(beside + row)
        if left.used < len(ahead + row) and right.used < len(beside + row):
            continue
        if left.event != right.event or row and left.said != right.said:
            return row
    return None
