"""Which blocks of a function are come to, and which names are given for sure there."""

from samepaper.shapes import end_operands, name_given, row_operands, targets_of


def come_to(function):
    """The numbers, rising, of the blocks that are come to."""
    blocks = function[2]
    reached = {0: True}
    ahead = [0]
    while ahead:
        params, rows, end = blocks[ahead.pop()]
        for block in targets_of(end):
            if block not in reached:
                reached[block] = True
                ahead.append(block)
    return tuple(sorted(reached))


class Given:
    """The names given for sure at the begin of each block of a function.

    Sets of names are kept as whole numbers, a bit for each name, since there may be very many names.
    """

    def __init__(self, function):
        self.blocks = function[2]
        self.reached = come_to(function)
        self.names = sorted({name for block in self.blocks for name in names_of(block)})
        self.places = {name: place for place, name in enumerate(self.names)}
        self.begins = {0: self.bits_of(self.blocks[0][0])}
        self.settle()

    def bits_of(self, names):
        bits = 0
        for name in names:
            bits = bits | (1 << self.places[name])
        return bits

    def settle(self):
        """Lets what is given go on from block to block till nothing changes."""
        params = {block: self.bits_of(self.blocks[block][0]) for block in self.reached}
        gives = {block: self.bits_of(names_of(self.blocks[block])) for block in self.reached}
        changed = True
        while changed:
            changed = False
            for block in self.reached:
                # A block whose begin is not known yet is met again: the one that leads to it changes it.
                if block in self.begins:
                    changed = self.go_on(block, gives[block], params) or changed

    def go_on(self, block, gives, params):
        """Carries a block's names to where its end leads; tells whether a begin has changed."""
        changed = False
        for target in targets_of(self.blocks[block][2]):
            begin = self.begins[block] | gives | params[target]
            if target in self.begins:
                begin = begin & self.begins[target]
            if self.begins.get(target) != begin:
                self.begins[target] = begin
                changed = True
        return changed

    def marks_at(self, block):
        """For each name, in their order, whether it is given at a block's begin: 1, or 0."""
        # The lowest bit is the first name's, and a whole number's highest bits are not shown where they are 0.
        return f"{self.begins[block]:b}"[::-1].ljust(len(self.names), "0")

    def names_at(self, block):
        """The names given for sure at a block's begin, sorted as texts."""
        return tuple([name for name, mark in zip(self.names, self.marks_at(block)) if mark == "1"])

    def first_lack(self, block):
        """The number of the first row that reads a name not given for sure there, or None.

        The end counts as the row behind the last one.
        """
        params, rows, end = self.blocks[block]
        marks = self.marks_at(block)
        own = {}
        for number, row in enumerate(rows):
            if self.lacks(row_operands(row), marks, own):
                return number
            own[name_given(row)] = True
        return len(rows) if self.lacks(end_operands(end), marks, own) else None

    def lacks(self, operands, marks, own):
        """Whether one of these operands is a name neither marked nor among the block's own ones."""
        for operand in operands:
            if isinstance(operand, str) and operand not in own:
                if operand not in self.places or marks[self.places[operand]] == "0":
                    return True
        return False


def names_of(block):
    """The names that a block gives by its params and rows."""
    params, rows, end = block
    given = [name_given(row) for row in rows]
    return list(params) + [name for name in given if name is not None]


def given_at(function):
    """For each block the names given for sure at its begin, or None where it is not come to."""
    given = Given(function)
    return tuple([given.names_at(block) if block in given.begins else None for block in range(len(function[2]))])
