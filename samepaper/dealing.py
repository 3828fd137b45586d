"""Blocks dealt to boxes: their names lie in cells, and in boxes where they are reckoned with."""

from samepaper.numbers import kinds_of
from samepaper.shapes import copy_of, end_operands, is_need, is_tick, row_operands


def boxes_of(kind, many):
    return [f"{kind}{number}" for number in range(many)]


class Cells:
    """The cells of a function: one for each of its names, and further ones that serve within a block."""

    def __init__(self, numbers, rows):
        self.boxes = {"n": boxes_of("n", numbers), "r": boxes_of("r", rows)}
        self.many = {"n": numbers, "r": rows}
        self.by_name = {}
        self.named = {}

    def new_cell(self, kind):
        cell = f"{kind}{self.many[kind]}"
        self.many[kind] += 1
        return cell

    def cell_of(self, name):
        if name not in self.by_name:
            self.by_name[name] = self.new_cell(name[0])
            self.named[self.by_name[name]] = name
        return self.by_name[name]


class Dealing:
    """A block's rows as they are dealt to boxes.

    In held is, for each box, which names have the value that lies there. Each name that is given is laid into its cell,
    too: where nobody reads it there, the row that does so goes again later.
    """

    def __init__(self, cells, rows, end):
        self.cells = cells
        self.taken = rows
        self.dealt = []
        self.at = 0
        self.held = {box: [] for kind in ("n", "r") for box in cells.boxes[kind]}
        self.uses = {}
        for at, row in enumerate(rows):
            self.note_uses(row_operands(row), at)
        # The end reads behind all rows, also while what it hands on is laid.
        self.note_uses(end_operands(end), len(rows) + 1)

    def note_uses(self, operands, at):
        for operand in operands:
            self.uses.setdefault(operand, []).append(at)

    def next_use(self, box):
        """The number of the next row behind this one that reads what lies in a box; beyond all where none does."""
        uses = [at for name in self.held[box] for at in self.uses.get(name, []) if at > self.at]
        return min(uses, default=len(self.taken) + 2)

    def box_with(self, name):
        """The box that has what a name has, or None."""
        for box in self.held:
            if name in self.held[box]:
                return box
        return None

    def free_box(self, kind, busy):
        """A box, but none of the busy ones, whose value is read latest of all."""
        return max([box for box in self.cells.boxes[kind] if box not in busy], key=lambda box: self.next_use(box))

    def give_box(self, box, op, operands, names):
        """A row gives a box what these names have."""
        self.dealt.append((box, op, operands))
        self.held[box] = names

    def load(self, name, busy):
        """A box that has what a name has, in a box that is none of the busy ones."""
        box = self.box_with(name)
        if box is None:
            box = self.free_box(name[0], busy)
            self.give_box(box, copy_of(name), (self.cells.cell_of(name),), [name])
        return box

    def load_all(self, names):
        """The boxes of names, which together are not more than there are boxes."""
        boxes = {}
        busy = [self.box_with(name) for name in names]
        for name in names:
            boxes[name] = self.load(name, busy)
            busy.append(boxes[name])
        return boxes

    def store(self, name, box):
        self.dealt.append((self.cells.cell_of(name), copy_of(name), (box,)))

    def boxed_operand(self, operand):
        """A number itself, or the box that has what a name has."""
        return operand if isinstance(operand, int) else self.load(operand, [])

    def deal_row(self, row):
        if is_tick(row):
            self.dealt.append(row)
        elif is_need(row):
            self.dealt.append(row[:2] + (self.boxed_operand(row[2]),))
        elif row[1] in ("copy", "keep"):
            self.deal_copy(row[0], row[2][0])
        else:
            self.deal_operation(row)
        self.at += 1

    def deal_copy(self, name, operand):
        if isinstance(operand, int):
            box = self.free_box("n", [])
            self.give_box(box, "copy", (operand,), [name])
        else:
            box = self.load(operand, [])
            self.held[box] = self.held[box] + [name]
        self.store(name, box)

    def deal_operation(self, row):
        name, op, operands = row
        names = sorted({operand for operand in operands if isinstance(operand, str)})
        # Only a make may have more names than there are boxes: those beyond are put in one by one.
        many = len(self.cells.boxes["n"]) if op == "make" else len(names)
        boxes = self.load_all(names[:many])
        box = self.free_box(kinds_of(op)[0], [])
        first = tuple([self.first_operand(operand, boxes) for operand in operands])
        self.give_box(box, op, first, [])
        for later in names[many:]:
            told = self.load(later, [])
            for place in [place for place, operand in enumerate(operands) if operand == later]:
                self.dealt.append((box, "put", (box, place, told)))
        self.held[box] = [name]
        self.store(name, box)

    def first_operand(self, operand, boxes):
        """An operand as a box, or 0 where a put comes later."""
        return operand if isinstance(operand, int) else boxes.get(operand, 0)

    def deal_rows(self):
        for row in self.taken:
            self.deal_row(row)

    def operand_read(self, operand):
        """An operand as an end may read it: a number, a box, a cell."""
        if isinstance(operand, int):
            return operand
        box = self.box_with(operand)
        return self.cells.cell_of(operand) if box is None else box

    def save(self, name):
        """Lays what a name has into a further cell, which is told."""
        cell = self.cells.new_cell(name[0])
        self.dealt.append((cell, copy_of(name), (self.load(name, []),)))
        return cell

    def lay_from_cell(self, name, cell):
        """Lays into a name's cell what a further cell has."""
        box = self.free_box(name[0], [])
        self.give_box(box, copy_of(name), (cell,), [])
        self.store(name, box)

    def lay_operand(self, name, operand):
        """Lays into a name's cell what an operand has."""
        if isinstance(operand, int):
            box = self.free_box("n", [])
            self.give_box(box, "copy", (operand,), [])
        else:
            box = self.load(operand, [])
        self.store(name, box)

    def lay_all(self, pairs):
        """Lays operands into names' cells as if all at once, pairs of a name and an operand."""
        saved = {}
        left = [(name, operand) for name, operand in pairs if name != operand]
        while left:
            read = [operand for name, operand in left if operand not in saved]
            ready = [name for name, operand in left if name not in read]
            if not ready:
                # A ring of names: what the first one has is read once more by another one.
                saved[left[0][0]] = self.save(left[0][0])
            else:
                for name, operand in [pair for pair in left if pair[0] in ready]:
                    if operand in saved:
                        self.lay_from_cell(name, saved[operand])
                    else:
                        self.lay_operand(name, operand)
                left = [pair for pair in left if pair[0] not in ready]
