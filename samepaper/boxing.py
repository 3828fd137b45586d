"""Boxed middles: those that reckon with few boxes, and small ones dealt to boxes."""

from samepaper.dealing import Cells, Dealing, boxes_of
from samepaper.given import come_to
from samepaper.lives import Lives
from samepaper.remaking import laid_by, made_by, results_laid
from samepaper.shapes import end_operands, is_need, is_tick, name_given, row_operands, targets_of


def is_boxed_row(row, boxes):
    """Whether a row reckons with boxes and numbers alone, or copies from or to a box."""
    if is_tick(row):
        return True
    if not is_need(row) and row[1] in ("copy", "keep"):
        return row[0] in boxes or row[2][0] in boxes
    if not is_need(row) and row[0] not in boxes:
        return False
    return all(isinstance(operand, int) or operand in boxes for operand in row_operands(row))


def is_boxed_end(end, boxes):
    word = end[0]
    if word == "go":
        return not end[2]
    if word == "fork":
        return not end[3] and not end[5] and (isinstance(end[1], int) or end[1] in boxes)
    return word == "give" or not end[4]


def is_boxed_block(block, boxes):
    """Whether a block is as a boxed middle's ones are, boxes a dict of all boxes."""
    params, rows, end = block
    if any(name in boxes for name in params) or not is_boxed_end(end, boxes):
        return False
    lacking = {box: True for box in boxes}
    for row in rows:
        if not is_boxed_row(row, boxes) or any(operand in lacking for operand in row_operands(row)):
            return False
        lacking.pop(name_given(row), None)
    return not any(operand in lacking for operand in end_operands(end))


def is_boxed(middle, numbers, rows):
    """Whether a right middle is boxed, with so many boxes for numbers and rows."""
    boxes = {box: True for box in boxes_of("n", numbers) + boxes_of("r", rows)}
    return all(is_boxed_block(block, boxes) for function in middle for block in function[2])


def rows_read(rows, behind):
    """Rows without those whose names nobody reads, and the names that are read at their begin.

    Behind tells, as keys, what is read behind them.
    """
    read = {operand: True for operand in behind if isinstance(operand, str)}
    left = []
    for row in reversed(rows):
        name = name_given(row)
        if name is None or name in read:
            left.append(row)
            read.pop(name, None)
            for operand in row_operands(row):
                read[operand] = True
    return tuple(left[::-1]), read


def with_rows_read(function):
    """A function without rows whose names nobody reads; what a row that is gone reads does not count."""
    blocks = function[2]
    left = [rows for params, rows, end in blocks]
    reads = [{} for block in blocks]
    changed = True
    while changed:
        changed = False
        for at in reversed(range(len(blocks))):
            params, rows, end = blocks[at]
            behind = {operand: True for operand in end_operands(end)}
            for target in targets_of(end):
                behind.update({name: True for name in reads[target] if name not in blocks[target][0]})
            kept, read = rows_read(rows, behind)
            left[at] = kept
            changed = changed or read != reads[at]
            reads[at] = read
    return function[:2] + (tuple([(block[0], rows, block[2]) for block, rows in zip(blocks, left)]),)


class Boxing:
    """A function that is once, as it is dealt to boxes.

    For each block of the outcome there is in spots (block, args): a block of the function, and what is still to be laid
    into its params that are wanted, None where nothing is.
    """

    def __init__(self, middle, number, boxes):
        self.middle = middle
        self.number = number
        self.function = middle[number]
        self.blocks = self.function[2]
        self.cells = Cells(boxes[0], boxes[1])
        self.lives = Lives(self.function)
        self.reached = come_to(self.function)
        self.numbers = {block: at for at, block in enumerate(self.reached)}
        self.spots = [(block, None) for block in self.reached]
        self.new = []

    def cells_of(self, names):
        return tuple([self.cells.cell_of(name) for name in names])

    def pairs_laid(self, block, args):
        """What is laid into those params of a block that are wanted: pairs of a param and an operand.

        Args that are fewer than the params are laid into the last ones.
        """
        params = self.blocks[block][0]
        wanted = self.lives.wanted_at(block)
        pairs = list(zip(params[len(params) - len(args):], args))
        return [(name, operand) for name, operand in pairs if name in wanted]

    def new_block(self, spot, made):
        """Lays on a further block; its number is told."""
        self.spots.append(spot)
        self.new.append(made)
        return len(self.spots) - 1

    def way_dealt(self, block, args):
        """The number of a block to which a way leads on which args are still to be laid."""
        pairs = self.pairs_laid(block, args)
        end = ("go", self.numbers[block], ())
        if not pairs:
            return end[1]
        dealing = Dealing(self.cells, (), ("go", block, args))
        dealing.lay_all(pairs)
        return self.new_block((block, args), ((), tuple(dealing.dealt), end))

    def end_dealt(self, end, dealing):
        """A block's end, ahead of which what it hands on is dealt."""
        word = end[0]
        if word == "go":
            dealing.lay_all(self.pairs_laid(end[1], end[2]))
            return ("go", self.numbers[end[1]], ())
        if word == "fork":
            operand = dealing.boxed_operand(end[1])
            return ("fork", operand, self.way_dealt(end[2], end[3]), (), self.way_dealt(end[4], end[5]), ())
        if word == "give":
            return ("give", tuple([dealing.operand_read(operand) for operand in end[1]]))
        return self.call_dealt(end, dealing)

    def call_dealt(self, end, dealing):
        """A call: what is more is laid ahead of it, its results are laid by a block of their own."""
        word, callee, args, block, more = end
        pairs = self.pairs_laid(block, more)
        laid = [name for name, operand in pairs if name != operand]
        saved = {name: dealing.save(name) for name in sorted({name for name in args if name in laid})}
        dealing.lay_all(pairs)
        told = tuple([saved[operand] if operand in saved else dealing.operand_read(operand) for operand in args])
        results = self.cells_of(self.blocks[block][0][:results_laid(self.middle, end)])
        behind = self.numbers[block]
        if results:
            behind = self.new_block((block, None), (results, (), ("go", behind, ())))
        return ("call", callee, told, behind, ())

    def block_dealt(self, block):
        params, rows, end = self.blocks[block]
        dealing = Dealing(self.cells, rows, end)
        dealing.deal_rows()
        end = self.end_dealt(end, dealing)
        return (self.cells_of(params) if block == 0 else (), tuple(dealing.dealt), end)

    def function_made(self):
        blocks = [self.block_dealt(block) for block in self.reached]
        return with_rows_read(self.function[:2] + (tuple(blocks + self.new),))

    def match_made(self, block, args, wanted):
        """The match of a spot, wanted the cells that are wanted there."""
        pairs = [] if args is None else self.pairs_laid(block, args)
        living = self.lives.wanted_at(block) if args is None else self.lives.living_at(block)
        stands, leaders = laid_by([pair[0] for pair in pairs], [pair[1] for pair in pairs], living)
        holds = [(cell, (0, leaders[self.cells.named[cell]])) for cell in wanted]
        return (((self.number, block),), tuple(stands), tuple(holds), ())

    def matches_made(self, made):
        lives = Lives(made)
        return tuple([self.match_made(block, args, lives.wanted_at(at))
                      for at, (block, args) in enumerate(self.spots)])


def boxed(middle, numbers, rows):
    """Of a small once middle one dealt to so many boxes for numbers and rows, and its paper."""
    return made_by([Boxing(middle, number, (numbers, rows)) for number in range(len(middle))])
