"""Which names live at the begin of a function's blocks."""

from samepaper.shapes import end_operands, name_given, row_operands, targets_of


class Lives:
    """For each block the names that on some way from its begin are read ahead of being given.

    These are the block's params that are wanted, and the names that live there. Sets of names are whole numbers, a bit
    for each name.
    """

    def __init__(self, function):
        self.blocks = function[2]
        self.places = {}
        self.reads = []
        self.gives = []
        self.takes = []
        for params, rows, end in self.blocks:
            self.note_block(params, rows, end)
        self.wanted = list(self.reads)
        self.settle()

    def bit_of(self, name):
        return 1 << self.places.setdefault(name, len(self.places))

    def bits_of(self, operands):
        bits = 0
        for operand in operands:
            if isinstance(operand, str):
                bits = bits | self.bit_of(operand)
        return bits

    def note_block(self, params, rows, end):
        """Notes what a block reads ahead of giving it, what it gives, and its params."""
        reads = 0
        gives = 0
        for row in rows:
            reads = reads | (self.bits_of(row_operands(row)) & ~gives)
            if name_given(row) is not None:
                gives = gives | self.bit_of(name_given(row))
        self.reads.append(reads | (self.bits_of(end_operands(end)) & ~gives))
        self.gives.append(gives)
        self.takes.append(self.bits_of(params))

    def settle(self):
        """Lets what is wanted go back from block to block till nothing changes."""
        changed = True
        while changed:
            changed = False
            for block in reversed(range(len(self.blocks))):
                behind = 0
                for target in targets_of(self.blocks[block][2]):
                    behind = behind | (self.wanted[target] & ~self.takes[target])
                wanted = self.reads[block] | (behind & ~self.gives[block])
                if wanted != self.wanted[block]:
                    self.wanted[block] = wanted
                    changed = True

    def names_in(self, bits):
        """The names of a set, sorted as texts."""
        # The lowest bit is the first name's, and a whole number's highest bits are not shown where they are 0.
        marks = f"{bits:b}"[::-1].ljust(len(self.places), "0")
        return tuple(sorted([name for name, mark in zip(self.places, marks) if mark == "1"]))

    def wanted_at(self, block):
        """The block's params that are wanted, and the names that live there."""
        return self.names_in(self.wanted[block])

    def living_at(self, block):
        return self.names_in(self.wanted[block] & ~self.takes[block])


def lives_of(function):
    """For each block the names that live at its begin, sorted as texts."""
    lives = Lives(function)
    return tuple([lives.living_at(block) for block in range(len(lives.blocks))])
