"""The middle's plain runner."""

from samepaper.numbers import done
from samepaper.shapes import is_need, is_tick
from samepaper.ticks import Bounded


def values_in(frame, operands):
    """The values of operands in a frame, which maps names to values; a number is its own."""
    return tuple([frame.get(operand, operand) for operand in operands])


class Run(Bounded):
    """A run of a middle: where it stands, and who waits for it there."""

    def __init__(self, middle, bound):
        Bounded.__init__(self, bound)
        self.middle = middle
        # Callers wait here and not in Python's own calls, which go some hundreds deep only.
        self.waiting = []
        self.blocks = ()
        self.block = 0
        self.frame = {}

    def enter(self, function, values):
        self.blocks = self.middle[function][2]
        self.frame = {}
        self.come(0, values)

    def come(self, block, values):
        self.block = block
        self.frame.update(dict(zip(self.blocks[block][0], values)))

    def pass_block(self):
        """Runs the rows of the block and, where none of them ends the run, its end."""
        params, rows, end = self.blocks[self.block]
        for row in rows:
            self.do_row(row)
            if self.outcome is not None:
                return
        self.do_end(end)

    def do_row(self, row):
        if is_tick(row):
            self.has_tick()
        elif is_need(row):
            if self.frame.get(row[2], row[2]) == 0:
                self.outcome = ("fault", row[1])
        else:
            name, op, operands = row
            self.frame[name] = done(op, values_in(self.frame, operands))

    def do_end(self, end):
        word = end[0]
        if word == "go":
            self.come(end[1], values_in(self.frame, end[2]))
        elif word == "fork":
            way = 2 if self.frame.get(end[1], end[1]) != 0 else 4
            self.come(end[way], values_in(self.frame, end[way + 1]))
        elif word == "give":
            self.do_give(values_in(self.frame, end[1]))
        elif self.has_tick():
            self.do_call(end)

    def do_call(self, end):
        function, args, block, more = end[1:]
        self.waiting.append((self.blocks, self.frame, block, values_in(self.frame, more)))
        self.enter(function, values_in(self.frame, args))

    def do_give(self, values):
        if not self.waiting:
            self.outcome = ("back", values)
            return
        self.blocks, self.frame, block, more = self.waiting.pop()
        self.come(block, values + more)


def run(middle, function, values, bound):
    """The outcome of a right middle's function, with values for its params, within a bound of ticks."""
    running = Run(middle, bound)
    running.enter(function, values)
    while running.outcome is None:
        running.pass_block()
    return running.outcome
