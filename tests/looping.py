"""For tests: once middles made by chance that are loops within loops, with rows that read what is given outside of them."""

import random

from middles import KINDS

OPS = [*KINDS, "make", "add", "mul", "mul", "put"]


class LoopMaker:
    """Makes a function of loops, forks and calls; its names are given in one place each, as they are laid."""

    def __init__(self, seed, deep=3, rows=4, calls=0.2, twice=0.3):
        self.chance = random.Random(seed)
        self.deep, self.rows, self.calls, self.twice = deep, rows, calls, twice
        self.blocks, self.many = [], {"n": 0, "r": 0}

    def name(self, kind):
        self.many[kind] += 1
        return f"{kind}{self.many[kind] - 1}"

    def block(self, params=()):
        self.blocks.append([tuple(params), [], None])
        return len(self.blocks) - 1

    def operand(self, kind, scope):
        """A name of a kind, mostly a late one, or a number."""
        names = [name for name in scope if name[0] == kind]
        if kind == "n" and self.chance.random() < 0.25:
            return self.chance.choice([0, 1, 2, -1, 7])
        return self.chance.choice(names[-3:] if self.chance.random() < 0.5 else names)

    def operands(self, kinds, scope):
        return tuple(self.operand(kind, scope) for kind in kinds)

    def lay_rows(self, at, scope):
        for k in range(self.chance.randrange(self.rows + 1)):
            sort = self.chance.random()
            if sort < 0.1:
                self.blocks[at][1].append(("need", "bad", self.operand("n", scope)))
                continue
            op = self.chance.choice(OPS)
            kind, kinds = KINDS.get(op, ("r", "n" * self.chance.randrange(9)))
            operands = self.operands(kinds, scope)
            if op == "mul" and self.chance.random() < self.twice:
                operands = operands[:1] * 2
            scope.append(self.name(kind))
            self.blocks[at][1].append((scope[-1], op, operands))

    def end(self, at, *end):
        self.blocks[at][2] = end

    def function(self):
        """A function of two numbers and a row that gives a number."""
        params = [self.name("n"), self.name("n"), self.name("r")]
        at, scope = self.body(self.block(params), list(params), self.deep)
        self.end(at, "give", (self.operand("n", scope),))
        return ("f", "n", tuple((params, tuple(rows), end) for params, rows, end in self.blocks))

    def middle(self):
        return (self.function(), ("g", "n", ((("n0",), (("n1", "mul", ("n0", 3)),), ("give", ("n1",))),)))

    def body(self, at, scope, deep):
        """Lays rows, loops and forks from a block on; tells the block and the names with which it goes on."""
        self.lay_rows(at, scope)
        for k in range(self.chance.randint(1, 2) if deep else 0):
            at, scope = (self.loop if self.chance.random() < 0.75 else self.fork)(at, scope, deep - 1)
            self.lay_rows(at, scope)
        return at, scope

    def come(self, at, target, scope):
        """Ends a block: comes to another one, by a go, a call whose result is laid first, or both ways of a fork."""
        kinds = [name[0] for name in self.blocks[target][0]]
        sort = self.chance.random()
        if kinds[:1] == ["n"] and sort < self.calls:
            self.end(at, "call", 1, self.operands("n", scope), target, self.operands(kinds[1:], scope))
        elif sort < 0.4:
            self.end(at, "fork", self.operand("n", scope), target, self.operands(kinds, scope), target, self.operands(kinds, scope))
        else:
            self.end(at, "go", target, self.operands(kinds, scope))

    def loop(self, at, scope, deep):
        params = [self.name(self.chance.choice("nnr")) for k in range(self.chance.randrange(4))]
        head = self.block(params)
        self.come(at, head, scope)
        inner = [*scope, *params]
        self.blocks[head][1].append(("tick",))
        self.lay_rows(head, inner)
        body, behind = self.block(), self.block()
        self.end(head, "fork", self.operand("n", inner), body, (), behind, ())
        outer = list(inner)
        last, inner = self.body(body, inner, deep)
        if self.chance.random() < 0.4:
            # A second way back, or one that leaves the loop elsewhere.
            other = self.block()
            further = self.block()
            self.end(last, "fork", self.operand("n", inner), other, (), further, ())
            scoped = list(inner)
            self.lay_rows(other, scoped)
            self.come(other, head, scoped)
            last = further
        self.come(last, head, inner)
        return behind, outer

    def fork(self, at, scope, deep):
        first, second, behind = self.block(), self.block(), self.block([self.name("n")])
        self.end(at, "fork", self.operand("n", scope), first, (), second, ())
        for way in (first, second):
            last, inner = self.body(way, list(scope), deep)
            self.come(last, behind, inner)
        return behind, [*scope, *self.blocks[behind][0]]

    def values(self):
        number = lambda: self.chance.choice([0, 1, 2, -1, 5, 32767])
        return (number(), number(), tuple(number() for k in range(self.chance.randrange(4))))
