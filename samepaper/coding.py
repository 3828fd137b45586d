"""Boxed middles as code."""

from samepaper.dealing import boxes_of
from samepaper.lives import Lives
from samepaper.middle import MOST_ROWS
from samepaper.reread import Rereading, name_of_cell
from samepaper.shapes import name_given, targets_of


def in_laying_order(function):
    """The numbers of the blocks that are come to, each followed, where it may be, by one that it goes on to."""
    placed = {}
    ahead = [0]
    while ahead:
        block = ahead.pop()
        while block is not None and block not in placed:
            placed[block] = True
            targets = targets_of(function[2][block][2])
            ahead.extend(targets[:-1])
            # Behind a branch comes its second way.
            block = targets[-1] if targets else None
    return list(placed)


class Coding:
    """A boxed function as steps.

    A name that is wanted where a block begins, or a param, has a place of its own; another one is read by no block but
    the one that gives it, and its place serves other names in other blocks.
    """

    def __init__(self, middle, number, boxes):
        self.function = middle[number]
        self.number = number
        self.blocks = self.function[2]
        self.boxes = boxes
        self.order = in_laying_order(self.function)
        self.places = {}
        self.find_places()
        self.many = len(self.places)
        self.inner = {}
        self.steps = []
        self.begins = {}
        self.unbroken = 0
        for at, block in enumerate(self.order):
            self.lay_block(block, self.order[at + 1] if at + 1 < len(self.order) else None)

    def find_places(self):
        """Gives places to params, those of the function first, and to names that are wanted where a block begins."""
        lives = Lives(self.function)
        for block in self.order:
            for name in self.blocks[block][0] + lives.wanted_at(block):
                self.places.setdefault(name, len(self.places))

    def place_of(self, name):
        """The place of a cell, in the block that is laid just now."""
        if name in self.places:
            return self.places[name]
        place = self.inner.setdefault(name, len(self.places) + len(self.inner))
        self.many = max(self.many, place + 1)
        return place

    def operand_of(self, operand):
        """An operand of a call or give."""
        if isinstance(operand, int) or operand in self.boxes:
            return operand
        return (operand[0], self.place_of(operand))

    def operands_of_all(self, operands):
        return tuple([self.operand_of(operand) for operand in operands])

    def step_of(self, row):
        """A row as a step."""
        if name_given(row) is None:
            return row
        name, op, operands = row
        if name not in self.boxes:
            return ("store", self.place_of(name), operands[0])
        if op in ("copy", "keep") and isinstance(operands[0], str) and operands[0] not in self.boxes:
            return ("load", name, self.place_of(operands[0]))
        return (op, name, operands)

    def lay_block(self, block, following):
        """Lays the steps of a block; jumps and branches still tell blocks."""
        params, rows, end = self.blocks[block]
        self.inner = {}
        self.begins[block] = len(self.steps)
        self.steps.extend([self.step_of(row) for row in rows])
        self.unbroken += len(rows)
        word = end[0]
        if word == "give":
            self.steps.append(("give", self.operands_of_all(end[1])))
            self.unbroken = 0
            return
        if word == "fork":
            self.steps.append(("branch", end[1], end[2]))
        elif word == "call":
            cells = self.operands_of_all(self.blocks[end[3]][0])
            self.steps.append(("call", end[1], self.operands_of_all(end[2]), cells))
        if word != "go":
            self.unbroken = 0
        self.lay_way(targets_of(end)[-1], following)

    def lay_way(self, block, following):
        """Lays a jump to a block, unless that follows at once.

        Blocks that follow one another are read again as one, which may not have too many rows.
        """
        if block != following or self.unbroken + len(self.blocks[block][1]) > MOST_ROWS:
            self.steps.append(("jump", block))
            self.unbroken = 0

    def function_coded(self):
        """The function of code."""
        steps = []
        for step in self.steps:
            is_way = step[0] in ("jump", "branch")
            steps.append(step[:-1] + (self.begins[step[-1]],) if is_way else step)
        takes = "".join([name[0] for name in self.blocks[0][0]])
        return (self.function[0], takes, self.function[1], self.many, tuple(steps))

    def matches_made(self, coded_function):
        """The matches of the blocks as which the code is read again."""
        rereading = Rereading(coded_function)
        lives = Lives(rereading.function_made())
        names = {name_of_cell(name[0], place): name for name, place in self.places.items()}
        # Of blocks that begin at one step all but the last one are empty.
        blocks = {begin: block for block, begin in self.begins.items()}
        matches = []
        for at, (begin, params, is_whole) in enumerate(rereading.spots):
            place = blocks[begin] if at > 0 else 0
            holds = [(name, (0, names[name])) for name in lives.wanted_at(at)]
            matches.append((((self.number, place),), (), tuple(holds), ()))
        return tuple(matches)


def coded(middle, numbers, rows):
    """Of a boxed middle code, and a paper for the middle and what the code is read again as."""
    boxes = {box: True for box in boxes_of("n", numbers) + boxes_of("r", rows)}
    codings = [Coding(middle, number, boxes) for number in range(len(middle))]
    code = tuple([coding.function_coded() for coding in codings])
    return code, tuple([coding.matches_made(function) for coding, function in zip(codings, code)])
