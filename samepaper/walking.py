"""The source's plain runner."""

from samepaper.numbers import LONGEST, done, has_place
from samepaper.plans import steps_of
from samepaper.ticks import Bounded
from samepaper.trees import found


def fault_of(op, values):
    """The word of the fault that an operation has of these values, or None."""
    if op in ("div", "rest"):
        return "nought" if values[1] == 0 else None
    if op in ("at", "put"):
        return None if has_place(values[0], values[1]) else "range"
    if op == "many":
        return None if 0 <= values[0] <= LONGEST else "long"
    return None


def laid_into(whole, places, value):
    """A record's value with this one laid into the field that the places lead to."""
    if not places:
        return value
    at = places[0]
    inner = laid_into(whole[at], places[1:], value)
    return whole[:at] + (inner,) + whole[at + 1:]


class Walk(Bounded):
    """A run of a tree: where it stands, and what waits for it there."""

    def __init__(self, tree, bound):
        Bounded.__init__(self, bound)
        self.tree = tree
        self.plans = {}
        self.stack = []
        # Callers wait here and not in Python's own calls, which go some hundreds deep only.
        self.waiting = []
        self.steps = []
        self.at = 0
        self.variables = {}

    def enter(self, name, values):
        if name not in self.plans:
            function = found(self.tree[1], name)
            parameters = [parameter for parameter, kind in function[2]]
            self.plans[name] = (steps_of(self.tree, function), parameters)
        self.steps, parameters = self.plans[name]
        self.at = 0
        self.variables = dict(zip(parameters, values))

    def taken_off(self, many):
        """The uppermost values of the stack, taken off."""
        cut = len(self.stack) - many
        values = tuple(self.stack[cut:])
        del self.stack[cut:]
        return values


def do_number(walk, number):
    walk.stack.append(number)


def do_of(walk, told):
    name, places = told
    value = walk.variables[name]
    for place in places:
        value = value[place]
    walk.stack.append(value)


def do_done(walk, told):
    op, many = told
    values = walk.taken_off(many)
    fault = fault_of(op, values)
    if fault is None:
        walk.stack.append(done(op, values))
    else:
        walk.outcome = ("fault", fault)


def do_new(walk, many):
    walk.stack.append(walk.taken_off(many))


def do_not(walk, told):
    walk.stack.append(1 if walk.stack.pop() == 0 else 0)


def do_truth(walk, told):
    walk.stack.append(1 if walk.stack.pop() != 0 else 0)


def do_and(walk, behind):
    if walk.stack.pop() == 0:
        walk.stack.append(0)
        walk.at = behind


def do_or(walk, behind):
    if walk.stack.pop() != 0:
        walk.stack.append(1)
        walk.at = behind


def do_call(walk, told):
    name, many = told
    values = walk.taken_off(many)
    if walk.has_tick():
        walk.waiting.append((walk.steps, walk.at, walk.variables))
        walk.enter(name, values)


def do_set(walk, told):
    name, places = told
    value = walk.stack.pop()
    # A variable that is made just now has no value yet, and its path no fields.
    walk.variables[name] = laid_into(walk.variables.get(name), places, value)


def do_give(walk, told):
    if walk.waiting:
        walk.steps, walk.at, walk.variables = walk.waiting.pop()
    else:
        walk.outcome = ("back", walk.stack.pop())


def do_unless(walk, behind):
    if walk.stack.pop() == 0:
        walk.at = behind


def do_go(walk, step):
    walk.at = step


def do_tick(walk, told):
    walk.has_tick()


ACTIONS = {
    "number": do_number,
    "of": do_of,
    "done": do_done,
    "new": do_new,
    "not": do_not,
    "truth": do_truth,
    "and": do_and,
    "or": do_or,
    "call": do_call,
    "set": do_set,
    "give": do_give,
    "unless": do_unless,
    "go": do_go,
    "tick": do_tick,
}


def run_source(tree, name, values, bound):
    """The outcome of a right tree's function, with a value for each parameter, within a bound of ticks."""
    walk = Walk(tree, bound)
    walk.enter(name, values)
    while walk.outcome is None:
        word, told = walk.steps[walk.at]
        walk.at += 1
        action = ACTIONS[word]
        action(walk, told)
    return walk.outcome
