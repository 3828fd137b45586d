"""Folded middles: what is a plain number, or alone laid into a param, is put where it is read."""

from samepaper.given import come_to
from samepaper.lives import Lives
from samepaper.numbers import done, kinds_of
from samepaper.once import term_of
from samepaper.remaking import made_by, put_end, put_row, results_laid, ways_of, with_ways
from samepaper.shapes import is_need, name_given


class Folding:
    """A function that is once, and what is put for its names: for each a number or another name, in puts."""

    def __init__(self, middle, number):
        self.middle = middle
        self.number = number
        self.function = middle[number]
        self.blocks = self.function[2]
        self.puts = {}
        self.reached = []
        while self.has_put_more():
            pass
        self.numbers = {block: at for at, block in enumerate(self.reached)}

    def root(self, operand):
        """What is put for an operand at last."""
        while operand in self.puts:
            operand = self.puts[operand]
        return operand

    def roots(self, operands):
        return tuple([self.root(operand) for operand in operands])

    def has_put_more(self):
        """Puts what is found out by what was put so far; tells whether there was any."""
        many = len(self.puts)
        decided = [((), (), self.end_of(block)) for block in range(len(self.blocks))]
        self.reached = come_to(("", "", decided))
        for block in self.reached:
            for row in self.blocks[block][1]:
                if name_given(row) is not None and name_given(row) not in self.puts:
                    self.put_row_told(row)
        for block in self.reached:
            self.put_params(block)
        return len(self.puts) > many

    def end_of(self, block):
        """A block's end, a fork that is decided as the go that it is."""
        end = self.blocks[block][2]
        if end[0] == "fork" and isinstance(self.root(end[1]), int):
            return ("go",) + ways_of(end)[0 if self.root(end[1]) != 0 else 1]
        return end

    def put_row_told(self, row):
        """Puts what a row gives, where that is a number or another name."""
        name, op, operands = row
        operands = self.roots(operands)
        if op in ("copy", "keep"):
            self.puts[name] = operands[0]
        elif kinds_of(op)[0] == "n" and all(isinstance(operand, int) for operand in operands):
            self.puts[name] = done(op, operands)

    def laid_into(self, block):
        """For each param of a block what is laid into it, by all ends that come there; None for a result."""
        laid = [[] for name in self.blocks[block][0]]
        for source in self.reached:
            end = self.end_of(source)
            for target, args in ways_of(end):
                if target == block:
                    results = [None] * results_laid(self.middle, end)
                    for things, operand in zip(laid, results + list(args)):
                        things.append(operand)
        return laid

    def put_params(self, block):
        """Puts what alone is laid into params of a block, itself apart."""
        for name, things in zip(self.blocks[block][0], self.laid_into(block)):
            others = [thing for thing in self.roots(things) if thing != name]
            # Nothing is laid in block 0, nor where the ways to a block went as more was put: it is no longer come to.
            if name not in self.puts and others and others[0] is not None and others == others[:1] * len(others):
                self.puts[name] = others[0]

    def kept(self, block, things):
        """Those of a block's params, or of what is laid into them, whose params stay."""
        return tuple([thing for name, thing in zip(self.blocks[block][0], things) if name not in self.puts])

    def way_made(self, target, args, results):
        """A way to the block as it is numbered in the outcome, without what is laid into params that are gone."""
        # Results are laid ahead of the args, into params that stay.
        laid = self.kept(target, (None,) * results + args)
        return (self.numbers[target], laid[results:])

    def row_made(self, row):
        """A row made anew, or None where it is gone."""
        if name_given(row) in self.puts:
            return None
        row = put_row(row, self.puts)
        is_passed = is_need(row) and isinstance(row[2], int) and row[2] != 0
        return None if is_passed else row

    def function_made(self):
        # Each name leads straight to what is put for it at last.
        self.puts = {name: self.root(name) for name in self.puts}
        blocks = []
        for block in self.reached:
            params, rows, told = self.blocks[block]
            made = [self.row_made(row) for row in rows]
            end = self.end_of(block)
            results = results_laid(self.middle, end)
            ways = [self.way_made(target, args, results) for target, args in ways_of(end)]
            end = put_end(with_ways(end, ways), self.puts)
            blocks.append((self.kept(block, params), tuple([row for row in made if row is not None]), end))
        return self.function[:2] + (tuple(blocks),)

    def match_made(self, block, wanted, left):
        """A block's match, of the names that it wants, and those that are left of them in the outcome."""
        leaders = {}
        stands = []
        # A name that stays leads those for which it is put, where it is there; else one of those that are gone does.
        for name in sorted(wanted, key=lambda told: told in self.puts):
            root = self.root(name)
            if isinstance(root, int) or root in leaders:
                stands.append(((0, name), term_of(leaders.get(root, root))))
            else:
                leaders[root] = name
        holds = [(name, (0, leaders[name])) for name in left]
        return (((self.number, block),), tuple(stands), tuple(holds), ())

    def matches_made(self, made):
        before = Lives(self.function)
        after = Lives(made)
        return tuple([self.match_made(block, before.wanted_at(block), after.wanted_at(at))
                      for at, block in enumerate(self.reached)])


def folded(middle):
    """Of a small once middle a folded one, and its paper."""
    return made_by([Folding(middle, number) for number in range(len(middle))])
