"""Code read again as a middle."""

from samepaper.remaking import with_ways
from samepaper.shapes import copy_of

# Cells have names behind those of all boxes, which are their own names.
FIRST_CELLS = {"n": 8, "r": 4}


def name_of_cell(kind, place):
    """The name by which a cell is read again, where what lies there is of this kind."""
    return f"{kind}{place + FIRST_CELLS[kind]}"


def name_of(operand):
    """A box or a number as itself, a cell as its name."""
    return name_of_cell(operand[0], operand[1]) if isinstance(operand, tuple) else operand


def names_of_all(operands):
    return tuple([name_of(operand) for operand in operands])


def row_of(step):
    """A step behind which always the next one comes, as a row."""
    word = step[0]
    if word in ("tick", "need"):
        return step
    if word == "load":
        return (step[1], copy_of(step[1]), (name_of_cell(step[1][0], step[2]),))
    if word == "store":
        return (name_of_cell(step[2][0], step[1]), copy_of(step[2]), (step[2],))
    return (step[1], word, step[2])


class Rereading:
    """A function of code as blocks. They begin where the function does, and where jumps, branches and calls lead.

    A block is told by a spot (begin, params, is_whole): the number of the step at which it begins, and its params. One
    that is not whole just goes on to the one that begins there without params.
    """

    def __init__(self, function):
        self.function = function
        self.steps = function[4]
        self.params = tuple([name_of_cell(kind, place) for place, kind in enumerate(function[1])])
        self.first = self.landing(0)
        self.begins = {self.first: True}
        self.find_begins()
        self.ways = {begin: [] for begin in sorted(self.begins)}
        self.note_ways()
        self.spots = [(self.first, self.params, not self.ways[self.first])]
        for begin in self.ways:
            self.add_spots(begin)
        # Block 0 is led to by nothing.
        self.numbers = {spot[:2]: at for at, spot in enumerate(self.spots) if at > 0}

    def landing(self, number):
        """The step at which one comes to stand that goes on at this one: jumps are passed over."""
        while self.steps[number][0] == "jump":
            number = self.steps[number][1]
        return number

    def pass_from(self, begin):
        """The rows from a begin on, their end but for its ways, and these: where they lead, what results they lay."""
        rows = []
        number = begin
        while self.steps[number][0] not in ("jump", "branch", "call", "give"):
            rows.append(row_of(self.steps[number]))
            number += 1
            if number in self.begins:
                return rows, ("go",), [(number, ())]
        step = self.steps[number]
        if step[0] == "jump":
            return rows, ("go",), [(self.landing(number), ())]
        if step[0] == "branch":
            return rows, ("fork", step[1]), [(self.landing(step[2]), ()), (self.landing(number + 1), ())]
        if step[0] == "call":
            end = ("call", step[1], names_of_all(step[2]))
            return rows, end, [(self.landing(number + 1), names_of_all(step[3]))]
        return rows, ("give", names_of_all(step[1])), []

    def find_begins(self):
        """Finds all steps at which blocks begin."""
        ahead = [self.first]
        while ahead:
            rows, end, ways = self.pass_from(ahead.pop())
            for begin, results in ways:
                if begin not in self.begins:
                    self.begins[begin] = True
                    ahead.append(begin)

    def note_ways(self):
        """Notes for each begin by which results, each once, ways lead there."""
        for begin in self.begins:
            rows, end, ways = self.pass_from(begin)
            for target, results in ways:
                if results not in self.ways[target]:
                    self.ways[target].append(results)

    def add_spots(self, begin):
        """Adds the spots of the blocks that ways lead to and that begin at a step."""
        ways = self.ways[begin]
        if begin == self.first and not ways:
            return
        if len(ways) == 1 and begin != self.first:
            self.spots.append((begin, ways[0], True))
            return
        self.spots.append((begin, (), True))
        self.spots.extend([(begin, results, False) for results in ways if results])

    def block_made(self, spot):
        begin, params, is_whole = spot
        if not is_whole:
            return (params, (), ("go", self.numbers[(begin, ())], ()))
        rows, end, ways = self.pass_from(begin)
        return (params, tuple(rows), with_ways(end, [(self.numbers[way], ()) for way in ways]))

    def function_made(self):
        blocks = [self.block_made(spot) for spot in self.spots]
        return (self.function[0], self.function[2], tuple(blocks))


def reread(code):
    """Right code as a right middle whose runs tell the same."""
    return tuple([Rereading(function).function_made() for function in code])
