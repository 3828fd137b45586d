"""How the steps of code are come to: what lies in boxes and cells then, and which of them lie on rings."""

from samepaper.steps import BOXES, box_given, cells_laid, operands_read, steps_behind


def steps_come_to(steps):
    """The numbers, rising, of the steps that can be come to; none beyond the last one is told."""
    reached = {0: True}
    ahead = [0]
    while ahead:
        number = ahead.pop()
        for behind in steps_behind(steps[number], number):
            if behind < len(steps) and behind not in reached:
                reached[behind] = True
                ahead.append(behind)
    return sorted(reached)


class State:
    """What lies where for sure ahead of a step: boxes that were given, and cells with numbers and with rows.

    Sets are whole numbers, a bit for each box or cell.
    """

    def __init__(self, boxes, numbers, rows):
        self.boxes = boxes
        self.numbers = numbers
        self.rows = rows

    def again(self):
        return State(self.boxes, self.numbers, self.rows)

    def meet_with(self, other):
        """Keeps what lies there for sure in another state, too; tells whether that is less."""
        ahead = (self.boxes, self.numbers, self.rows)
        self.boxes = self.boxes & other.boxes
        self.numbers = self.numbers & other.numbers
        self.rows = self.rows & other.rows
        return ahead != (self.boxes, self.numbers, self.rows)

    def lay_cell(self, kind, place):
        bit = 1 << place
        self.numbers = self.numbers | bit if kind == "n" else self.numbers & ~bit
        self.rows = self.rows | bit if kind == "r" else self.rows & ~bit

    def can_read(self, operand):
        if isinstance(operand, int):
            return True
        if isinstance(operand, str):
            return (self.boxes >> BOXES[operand]) & 1 == 1
        kind, place = operand
        return ((self.numbers if kind == "n" else self.rows) >> place) & 1 == 1

    def pass_step(self, step):
        if step[0] == "call":
            self.boxes = 0
        for kind, place in cells_laid(step):
            self.lay_cell(kind, place)
        box = box_given(step)
        if box is not None:
            self.boxes = self.boxes | (1 << BOXES[box])


class Reaching:
    """The states in which steps are come to, kept at joins: at step 0, and where jumps and branches lead."""

    def __init__(self, function):
        self.steps = function[4]
        self.joins = {0: True}
        for step in self.steps:
            if step[0] in ("jump", "branch"):
                self.joins[step[-1]] = True
        begin = State(0, 0, 0)
        for place, kind in enumerate(function[1]):
            begin.lay_cell(kind, place)
        self.states = {0: begin}
        self.pending = {0: True}
        self.settle()

    def settle(self):
        """Goes on from joins till no state changes any more."""
        order = sorted(self.joins)
        while self.pending:
            for join in order:
                if join in self.pending:
                    del self.pending[join]
                    self.walk(join)

    def come(self, join, state):
        """Comes to a join in a state."""
        if join not in self.states:
            self.states[join] = state.again()
            self.pending[join] = True
        elif self.states[join].meet_with(state):
            self.pending[join] = True

    def walk(self, join):
        """Goes on from a join up to the next ones; tells the steps that read otherwise or go beyond the last."""
        state = self.states[join].again()
        faults = []
        number = join
        while number is not None:
            step = self.steps[number]
            behind = steps_behind(step, number)
            if len(self.steps) in behind or not all(state.can_read(operand) for operand in operands_read(step)):
                faults.append(number)
            state.pass_step(step)
            number = None
            for following in behind:
                if following in self.joins:
                    self.come(following, state)
                elif following < len(self.steps):
                    number = following
        return faults

    def first_fault(self):
        """The first step that can be come to and reads otherwise or goes on beyond the last one, or None."""
        faults = []
        for join in list(self.states):
            faults.extend(self.walk(join))
        return min(faults, default=None)


def behind_all(ways):
    """The keys of ways, each behind all to which it leads, rings apart; ways a dict from numbers to lists of them."""
    seen = {}
    told = []
    for begin in ways:
        left = [] if begin in seen else [(begin, list(ways[begin]))]
        seen[begin] = True
        while left:
            number, ahead = left[-1]
            if not ahead:
                told.append(number)
                left.pop()
            else:
                following = ahead.pop()
                if following not in seen:
                    seen[following] = True
                    left.append((following, list(ways[following])))
    return told


def comes_from(sources, begin, seen):
    """The numbers that are come to from one along sources, but for those seen, which it adds to."""
    seen[begin] = True
    told = [begin]
    ahead = [begin]
    while ahead:
        number = ahead.pop()
        for source in sources[number]:
            if source not in seen:
                seen[source] = True
                told.append(source)
                ahead.append(source)
    return told


def first_on_ring(steps, numbers):
    """The least of the numbers, rising ones of steps, that lies on a ring of such steps, or None."""
    ways = {number: [] for number in numbers}
    sources = {number: [] for number in numbers}
    for number in numbers:
        for behind in steps_behind(steps[number], number):
            if behind in ways:
                ways[number].append(behind)
                sources[behind].append(number)
    seen = {}
    ringed = []
    # Those that come from one, of all that lead as far as it and no further, lie on rings with it.
    for number in reversed(behind_all(ways)):
        if number not in seen:
            group = comes_from(sources, number, seen)
            if len(group) > 1 or number in ways[number]:
                ringed.extend(group)
    return min(ringed, default=None)
