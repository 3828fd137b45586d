"""The machine that runs code."""

from samepaper.numbers import done
from samepaper.ticks import Bounded


class Machine(Bounded):
    """A run of code: its boxes, the frame and the step where it stands, and who waits for it there."""

    def __init__(self, code, bound):
        Bounded.__init__(self, bound)
        self.code = code
        self.boxes = {}
        # Callers wait here and not in Python's own calls, which go some hundreds deep only.
        self.waiting = []
        self.steps = ()
        self.at = 0
        # A dict: frames may have very many cells of which few are laid, and very many frames may wait.
        self.frame = {}

    def enter(self, function, values):
        self.steps = self.code[function][4]
        self.at = 0
        self.frame = dict(enumerate(values))

    def read(self, operand):
        """The value of a number, a box or a cell."""
        if isinstance(operand, int):
            return operand
        return self.boxes[operand] if isinstance(operand, str) else self.frame[operand[1]]

    def read_all(self, operands):
        return tuple([self.read(operand) for operand in operands])


def do_operation(machine, step):
    op, box, operands = step
    machine.boxes[box] = done(op, machine.read_all(operands))


def do_load(machine, step):
    machine.boxes[step[1]] = machine.frame[step[2]]


def do_store(machine, step):
    machine.frame[step[1]] = machine.boxes[step[2]]


def do_need(machine, step):
    if machine.read(step[2]) == 0:
        machine.outcome = ("fault", step[1])


def do_tick(machine, step):
    machine.has_tick()


def do_jump(machine, step):
    machine.at = step[1]


def do_branch(machine, step):
    if machine.read(step[1]) != 0:
        machine.at = step[2]


def do_call(machine, step):
    if machine.has_tick():
        values = machine.read_all(step[2])
        machine.waiting.append((machine.steps, machine.at, machine.frame, step[3]))
        machine.enter(step[1], values)


def do_give(machine, step):
    values = machine.read_all(step[1])
    if not machine.waiting:
        machine.outcome = ("back", values)
        return
    machine.steps, machine.at, machine.frame, cells = machine.waiting.pop()
    for cell, value in zip(cells, values):
        machine.frame[cell[1]] = value


ACTIONS = {
    "load": do_load,
    "store": do_store,
    "need": do_need,
    "tick": do_tick,
    "jump": do_jump,
    "branch": do_branch,
    "call": do_call,
    "give": do_give,
}


def run_code(code, function, values, bound):
    """The outcome of right code's function, with values for what it takes, within a bound of ticks."""
    machine = Machine(code, bound)
    machine.enter(function, values)
    while machine.outcome is None:
        step = machine.steps[machine.at]
        machine.at += 1
        action = ACTIONS.get(step[0], do_operation)
        action(machine, step)
    return machine.outcome
