"""For tests: a second dealer, which deals middles to boxes by chance: any cells, any order of blocks, copies as it likes."""

from middles import leads


def copy_of(name):
    return "copy" if name[0] == "n" else "keep"


class Dealer:
    """Deals one function of a right middle; whatever a block reads, it loads first, whatever it gives, it stores."""

    def __init__(self, middle, number, counts, chance):
        self.middle, self.function, self.chance = middle, middle[number], chance
        self.boxes = {"n": [f"n{k}" for k in range(counts[0])], "r": [f"r{k}" for k in range(counts[1])]}
        self.cells, self.used = {}, set(self.boxes["n"] + self.boxes["r"])
        self.blocks, self.waits = [], {}

    def new_cell(self, kind):
        while True:
            name = f"{kind}{self.chance.choice([self.chance.randrange(100), self.chance.randrange(100000)])}"
            if name not in self.used:
                self.used.add(name)
                return name

    def cell(self, name):
        if name not in self.cells:
            self.cells[name] = self.new_cell(name[0])
        return self.cells[name]

    def box(self, kind, busy=()):
        return self.chance.choice([box for box in self.boxes[kind] if box not in busy])

    def load(self, rows, operand, busy=()):
        """A number as itself, or a box into which a name is loaded."""
        if isinstance(operand, int):
            return operand
        box = self.box(operand[0], busy)
        rows.append((box, copy_of(operand), (self.cell(operand),)))
        if self.chance.random() < 0.1 and operand[0] == "n":
            other = self.box("n", (*busy, box))
            rows.append((other, "copy", (box,)))
            return other
        return box

    def move(self, rows, operand, cell):
        """What an operand has into a cell."""
        if isinstance(operand, int):
            box = self.box("n")
            rows.append((box, "copy", (operand,)))
        else:
            box = self.load(rows, operand)
        rows.append((cell, copy_of(cell), (box,)))

    def row(self, rows, row):
        if row[0] == "tick":
            rows.append(row)
        elif row[0] == "need":
            rows.append((*row[:2], self.load(rows, row[2])))
        else:
            name, op, operands = row
            if op == "make":
                box = self.make(rows, operands)
            else:
                given, busy = [], []
                for operand in operands:
                    given.append(self.load_first(rows, operand, busy))
                box = self.box(name[0])
                rows.append((box, op, tuple(given)))
            rows.append((self.cell(name), copy_of(name), (box,)))

    def load_first(self, rows, operand, busy):
        if isinstance(operand, int):
            return operand
        box = self.box(operand[0], busy)
        rows.append((box, copy_of(operand), (self.cell(operand),)))
        busy.append(box)
        return box

    def make(self, rows, operands):
        """A make: of zeros and then by puts, or of as many names as there are boxes."""
        box = self.box("r")
        rows.append((box, "make", tuple(o if isinstance(o, int) else 0 for o in operands)))
        for place, operand in enumerate(operands):
            if not isinstance(operand, int):
                rows.append((box, "put", (box, place, self.load(rows, operand))))
        return box

    def lay_all(self, rows, params, args):
        """Args into the cells of params: first all into further cells, then from there."""
        between = [self.new_cell(name[0]) for name in params]
        for cell, operand in zip(between, args):
            self.move(rows, operand, cell)
        for name, cell in zip(params, between):
            box = self.box(name[0])
            rows += [(box, copy_of(name), (cell,)), (self.cell(name), copy_of(name), (box,))]

    def add(self, block):
        self.blocks.append(block)
        return len(self.blocks) - 1

    def way(self, target, args):
        """A block that leads to the target, which it may be, with args laid."""
        params = self.function[2][target][0]
        if params:
            rows = []
            self.lay_all(rows, params, args)
            target = self.add(((), tuple(rows), ("go", target, ())))
        while self.chance.random() < 0.15:
            target = self.add(((), (), ("go", target, ())))
        return target

    def operand(self, rows, operand):
        """An operand of a call or give: a number, a cell, a box."""
        if isinstance(operand, int):
            return operand
        return self.cell(operand)

    def end(self, rows, end):
        if end[0] == "go":
            if self.chance.random() < 0.5:
                return ("go", self.way(end[1], end[2]), ())
            self.lay_all(rows, self.function[2][end[1]][0], end[2])
            return ("go", end[1], ())
        if end[0] == "fork":
            operand = self.load(rows, end[1])
            return ("fork", operand, self.way(*end[2:4]), (), self.way(*end[4:]), ())
        if end[0] == "give":
            return ("give", self.read_all(rows, end[1]))
        return self.call(rows, end)

    def read_all(self, rows, operands):
        """Operands as cells, the last ones of each kind as boxes now and then."""
        told = [self.operand(rows, operand) for operand in operands]
        for kind in "nr":
            at = [k for k, operand in enumerate(operands) if isinstance(operand, str) and operand[0] == kind]
            if at and self.chance.random() < 0.5:
                told[at[-1]] = self.load(rows, operands[at[-1]])
        return tuple(told)

    def call(self, rows, end):
        word, callee, args, target, more = end
        many = len(self.middle[callee][1])
        params = self.function[2][target][0]
        saved = [self.new_cell(operand[0]) if isinstance(operand, str) else operand for operand in args]
        for cell, operand in zip(saved, args):
            if isinstance(operand, str):
                self.move(rows, operand, cell)
        self.lay_all(rows, params[many:], more)
        key = (target, many)
        if key not in self.waits or self.chance.random() < 0.3:
            results = tuple(self.cell(name) for name in params[:many])
            further = [((), (), ("go", target, ()))] if self.chance.random() < 0.3 else []
            behind = self.add(further[0]) if further else target
            self.waits[key] = self.add((results, (), ("go", behind, ())))
        return ("call", callee, tuple(saved), self.waits[key], ())

    def dealt(self):
        self.blocks = [None] * len(self.function[2])
        for at, (params, rows, end) in enumerate(self.function[2]):
            made = []
            for row in rows:
                self.row(made, row)
            end = self.end(made, end)
            self.blocks[at] = (tuple(map(self.cell, params)) if at == 0 else (), tuple(made), end)
        order = list(range(1, len(self.blocks)))
        self.chance.shuffle(order)
        order = [0, *order]
        to = {at: new for new, at in enumerate(order)}
        blocks = tuple((*self.blocks[at][:2], led(self.blocks[at][2], to)) for at in order)
        return (*self.function[:2], blocks)


def led(end, to):
    """An end that leads to other blocks."""
    if end[0] == "go":
        return ("go", to[end[1]], end[2])
    if end[0] == "fork":
        return ("fork", end[1], to[end[2]], end[3], to[end[4]], end[5])
    if end[0] == "call":
        return (*end[:3], to[end[3]], end[4])
    return end


def dealt(middle, counts, chance):
    """A boxed middle of a right one."""
    return tuple(Dealer(middle, number, counts, chance).dealt() for number in range(len(middle)))
