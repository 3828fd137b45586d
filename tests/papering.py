"""For tests: right middles made by chance from a seed, papers with places of several frames, and papers bent by chance."""

import random

from middles import KINDS, leads, second_come_to, second_given, second_right

from samepaper.errors import NoPaper
from samepaper.papers import shape_asked

PLAIN = [0, 0, 1, 1, 2, 3, -1, 5, 40, 41, 32767, -32768]


class RightMaker:
    """Makes right middles: what would not be given for sure is put right, rings are given ticks."""

    def __init__(self, seed, functions=3, blocks=7, rows=6, names=5, plain=0.35, again=0.2):
        self.chance = random.Random(seed)
        self.most = functions, blocks, rows
        self.names, self.plain, self.again = names, plain, again

    def name(self, kind):
        return kind + str(self.chance.randrange(self.names))

    def params(self, most):
        names = {self.name(self.chance.choice("nnnr")) for k in range(self.chance.randrange(most + 1))}
        return tuple(self.chance.sample(sorted(names), len(names)))

    def operand(self, kind):
        if kind == "n" and self.chance.random() < self.plain:
            return self.chance.choice(PLAIN)
        return self.name(kind)

    def operands(self, kinds):
        return tuple(self.operand(kind) for kind in kinds)

    def middle(self):
        functions, blocks, rows = self.most
        self.faces = []
        for k in range(self.chance.randint(1, functions)):
            results = "".join(self.chance.choice("nnr") for j in range(self.chance.randrange(3)))
            params = [self.params(3) for j in range(self.chance.randint(1, blocks))]
            self.faces.append(("fghabc"[k], results, params))
        return tuple(self.function(number) for number in range(len(self.faces)))

    def function(self, number):
        word, results, params = self.faces[number]
        blocks = []
        self.rows = []
        # A call may lay on a further block for its results.
        while len(blocks) < len(params):
            at = len(blocks)
            rows = [self.row() for k in range(self.chance.randrange(self.most[2] + 1))]
            blocks.append((params[at], rows, self.end(number, at)))
        blocks[0][1].insert(0, ("r9", "make", (1, 2)))
        for at, (taken, rows, end) in enumerate(blocks):
            for target in leads(end):
                if target <= at:
                    blocks[target][1].insert(self.chance.randrange(len(blocks[target][1]) + 1), ("tick",))
        return self.put_right((word, results, tuple((taken, tuple(rows), end) for taken, rows, end in blocks)))

    def row(self):
        sort = self.chance.random()
        if sort < 0.1:
            return ("tick",)
        if sort < 0.25:
            return ("need", self.chance.choice(["bad", "worse"]), self.operand("n"))
        if self.rows and self.chance.random() < self.again:
            row = self.chance.choice(self.rows)
            return (self.name(row[0][0]), *row[1:])
        op = self.chance.choice([*KINDS, "make", "add", "copy"])
        kind, kinds = KINDS.get(op, ("r", "n" * self.chance.randrange(4)))
        self.rows.append((self.name(kind), op, self.operands(kinds)))
        return self.rows[-1]

    def way(self, params, at, ahead=""):
        """A block whose params begin with these kinds, and args for the others."""
        fits = [b for b in range(1, len(params)) if "".join(name[0] for name in params[b]).startswith(ahead)]
        later = [b for b in fits if b > at]
        if not fits:
            names = [f"{kind}{self.names + k}" for k, kind in enumerate(ahead)]
            params.append((*names, *self.params(2)))
            fits = later = [len(params) - 1]
        block = self.chance.choice(later if later and self.chance.random() < 0.75 else fits)
        return block, self.operands(name[0] for name in params[block][len(ahead):])

    def end(self, number, at):
        word, results, params = self.faces[number]
        sort = self.chance.choice(["go", "go", "fork", "fork", "fork", "call", "give"])
        if at == 0 and len(params) > 1 and sort == "give":
            sort = "fork"
        if sort == "give" or len(params) > 12 or len(params) == 1 and sort != "call":
            return ("give", self.operands(results))
        if sort == "go":
            return ("go", *self.way(params, at))
        if sort == "fork":
            return ("fork", self.operand("n"), *self.way(params, at), *self.way(params, at))
        callee = self.chance.randrange(len(self.faces))
        args = self.operands(name[0] for name in self.faces[callee][2][0])
        return ("call", callee, args, *self.way(params, at, self.faces[callee][1]))

    def put_right(self, function):
        """Puts plain numbers, or the row that block 0 gives, for names not given for sure where a block is come to."""
        blocks = []
        for (params, rows, end), given in zip(function[2], second_given(function)):
            if given is not None:
                known, right = set(given), []
                for row in rows:
                    right.append(self.known(row, known))
                    known |= {row[0]} if len(row) == 3 and row[0] != "need" else set()
                rows, end = tuple(right), self.known(end, known)
            blocks.append((params, rows, end))
        return (*function[:2], tuple(blocks))

    def known(self, thing, known):
        def put(operand):
            if not isinstance(operand, str) or operand in known:
                return operand
            fits = sorted(name for name in known if name[0] == operand[0])
            if fits and self.chance.random() < 0.7:
                return self.chance.choice(fits)
            return "r9" if operand[0] == "r" else self.chance.choice(PLAIN)
        return put_all(thing, put)

    def value(self, name):
        if name[0] == "n":
            return self.chance.choice([0, 1, 2, -1, 5, 32767])
        return tuple(self.chance.choice([0, 1, 7]) for k in range(self.chance.randrange(4)))

    def values(self, middle, number):
        return tuple(self.value(name) for name in middle[number][2][0][0])


def put_all(thing, put):
    """A row or an end with put done to all its operands."""
    def all_of(operands):
        return tuple(put(operand) for operand in operands)
    word = thing[0]
    if word == "tick":
        return thing
    if word == "need":
        return (*thing[:2], put(thing[2]))
    if word == "go":
        return (*thing[:2], all_of(thing[2]))
    if word == "fork":
        return (word, put(thing[1]), thing[2], all_of(thing[3]), thing[4], all_of(thing[5]))
    if word == "give":
        return (word, all_of(thing[1]))
    if word == "call":
        return (*thing[:2], all_of(thing[2]), thing[3], all_of(thing[4]))
    return (*thing[:2], all_of(thing[2]))


def moved(name, far):
    return f"{name[0]}{int(name[1:]) + far}" if isinstance(name, str) else name


def entered(middle, chance, often=0.7):
    """A middle in which some calls are put in place, one level deep, and its paper, for the middle and it."""
    functions, paper = [], []
    for f, (word, results, blocks) in enumerate(middle):
        given = second_given(middle[f])
        made = list(blocks)
        matches = [None if names is None else (((f, b),), (), tuple((n, (0, n)) for n in names), ())
                   for b, names in enumerate(given)]
        for b, (params, rows, end) in enumerate(blocks):
            if end[0] == "call" and given[b] is not None and chance.random() < often and len(made) < 30:
                enter(middle, f, b, given, made, matches)
        functions.append((word, results, tuple(made)))
        paper.append(tuple(matches))
    return tuple(functions), tuple(paper)


def enter(middle, f, b, given, made, matches):
    params, rows, (word, g, args, behind, more) = middle[f][2][b]
    callee, first, far = middle[g], len(made), 100 * (b + 1)
    taken = middle[f][2][behind][0]
    awaited, later = taken[:len(callee[1])], taken[len(callee[1]):]
    saved = [f"{name[0]}{far + 90 + k}" for k, name in enumerate(later)]
    copies = [(name, "copy" if name[0] == "n" else "keep", (operand,)) for name, operand in zip(saved, more)]
    made[b] = (params, (*rows, *copies, ("tick",)), ("go", first, args))
    waits = [name for name in given[behind] if name not in taken]
    held = tuple((name, (0, name)) for name in waits) + tuple((s, (0, name)) for s, name in zip(saved, later))
    for at, names in enumerate(second_given(callee)):
        block = [put_all(row, lambda o: moved(o, far)) for row in callee[2][at][1]]
        block = [(moved(row[0], far), *row[1:]) if len(row) == 3 and row[0] != "need" else row for row in block]
        end = put_all(callee[2][at][2], lambda o: moved(o, far))
        if end[0] == "give":
            end = ("go", behind, end[1] + tuple(saved))
        elif end[0] == "go":
            end = ("go", end[1] + first, end[2])
        elif end[0] == "fork":
            end = (*end[:2], end[2] + first, end[3], end[4] + first, end[5])
        else:
            end = (*end[:3], end[3] + first, end[4])
        made.append((tuple(moved(n, far) for n in callee[2][at][0]), tuple(block), end))
        inner = None if names is None else tuple((moved(n, far), (1, n)) for n in names)
        matches.append(None if inner is None else (((f, behind), (g, at)), (), held + inner, ()))


class Bender:
    """Bends papers at places drawn by chance."""

    def __init__(self, chance, one, other):
        self.chance, self.one, self.other = chance, one, other

    def name_at(self, place, kind=None):
        """A (depth, name) of a place, or None."""
        names = []
        for d, (f, b) in enumerate(place):
            given = second_given(self.one[f])[b]
            waits = len(self.one[place[d + 1][0]][1]) if d + 1 < len(place) else 0
            awaited = self.one[f][2][b][0][:waits]
            names += [(d, n) for n in given or () if n not in awaited and kind in (None, n[0])]
        return self.chance.choice(names) if names else None

    def term(self, place, kind, deep=2):
        sort = self.chance.random()
        if deep and sort < 0.4:
            ops = [op for op, (told, kinds) in KINDS.items() if told == kind]
            op = self.chance.choice(ops)
            return (op, *(self.term(place, k, deep - 1) for k in KINDS[op][1]))
        name = self.name_at(place, kind)
        if kind == "n" and (sort < 0.6 or name is None):
            return self.chance.choice(PLAIN)
        return name or ("make", 1, 2)

    def bent_match(self, match, matches):
        place, stands, holds, knows = match
        sort = self.chance.choice(["place", "hold", "hold", "unhold", "stand", "unstand", "know", "unknow", "more", "other"])
        if sort == "place":
            f = self.chance.randrange(len(self.one))
            frame = (f, self.chance.randrange(len(self.one[f][2])))
            place = self.chance.choice([place[:-1] + (frame,), place + (frame,), place[1:], place[:-1], ((place[0][0], frame[1]),)])
        elif sort == "hold" and holds:
            at = self.chance.randrange(len(holds))
            name = holds[at][0]
            holds = holds[:at] + ((name, self.term(place, name[0])),) + holds[at + 1:]
        elif sort == "unhold" and holds:
            at = self.chance.randrange(len(holds))
            holds = holds[:at] + holds[at + 1:]
        elif sort == "stand":
            name = self.name_at(place)
            if name:
                at = self.chance.randrange(len(stands) + 1)
                stands = stands[:at] + ((name, self.term(place, name[1][0])),) + stands[at:]
        elif sort == "unstand" and stands:
            at = self.chance.randrange(len(stands))
            stands = stands[:at] + stands[at + 1:]
        elif sort == "know":
            knows += ((self.term(place, "n"), self.chance.random() < 0.5),)
        elif sort == "unknow":
            knows = knows[1:]
        elif sort == "more":
            name = self.chance.choice("nr") + str(self.chance.randrange(8))
            holds += ((name, self.term(place, name[0])),)
        elif sort == "other":
            return self.chance.choice(matches)
        return (place, stands, holds, knows)

    def bent(self, paper, times=1):
        """A paper of the right shape, bent so often."""
        for k in range(times):
            for tried in range(20):
                f = self.chance.randrange(len(paper))
                b = self.chance.randrange(len(paper[f]))
                match = paper[f][b]
                new = None if match is None or self.chance.random() < 0.05 else self.bent_match(match, paper[f])
                other = (*paper[:f], (*paper[f][:b], new, *paper[f][b + 1:]), *paper[f + 1:])
                try:
                    shape_asked(self.one, self.other, other)
                except NoPaper:
                    continue
                paper = other
                break
        return paper


class Enricher:
    """Tells more in papers than they need: equations of rows, terms of rows instead of names, what forks let know."""

    def __init__(self, chance, one):
        self.chance, self.one = chance, one

    def enriched(self, paper):
        """A paper with one thing told more, which may break it."""
        f = self.chance.randrange(len(paper))
        spots = [b for b, match in enumerate(paper[f]) if match is not None]
        if not spots:
            return paper
        b = self.chance.choice(spots)
        place, stands, holds, knows = paper[f][b]
        depth = self.chance.randrange(len(place))
        rows = [row for params, rows, end in self.one[place[depth][0]][2] for row in rows
                if len(row) == 3 and row[0] != "need"]
        sort = self.chance.choice(["stand", "stand", "hold", "know"])
        if sort == "stand" and rows:
            row = self.chance.choice(rows)
            stand = ((depth, row[0]), self.term(row, depth))
            at = self.chance.randrange(len(stands) + 1)
            stands = stands[:at] + (stand,) + stands[at:]
        elif sort == "hold" and rows and holds:
            row = self.chance.choice(rows)
            term = self.term(row, depth)
            holds = tuple((name, term if told == (depth, row[0]) else told) for name, told in holds)
        elif sort == "know":
            g, at = place[depth]
            forks = [end for params, rows, end in self.one[g][2] if end[0] == "fork" and at in (end[2], end[4])]
            if forks:
                end = self.chance.choice(forks)
                term = (depth, end[1]) if isinstance(end[1], str) else end[1]
                knows += ((term, end[2] == at),)
        match = (place, stands, holds, knows)
        return (*paper[:f], (*paper[f][:b], match, *paper[f][b + 1:]), *paper[f + 1:])

    def term(self, row, depth):
        return (row[1], *((depth, o) if isinstance(o, str) else o for o in row[2]))


def bent_middle(middle, chance):
    """A right middle that differs from one in one row or end."""
    while True:
        f = chance.randrange(len(middle))
        b = chance.choice(second_come_to(middle[f]))
        params, rows, end = middle[f][2][b]
        rows = list(rows)
        at = chance.randrange(len(rows) + 1)
        sort = chance.choice(["drop", "again", "swap", "operand", "operand", "end", "end", "tick", "word"])
        if sort == "end":
            end = put_one(end, chance)
        elif sort == "tick":
            rows.insert(at, ("tick",))
        elif at < len(rows):
            if sort == "drop":
                del rows[at]
            elif sort == "again":
                rows.insert(chance.randrange(len(rows) + 1), rows[at])
            elif sort == "swap":
                rows.insert(chance.randrange(len(rows)), rows.pop(at))
            elif sort == "operand":
                rows[at] = put_one(rows[at], chance)
            elif rows[at][0] == "need":
                rows[at] = ("need", "worst", rows[at][2])
        block = (params, tuple(rows), end)
        made = (*middle[f][:2], (*middle[f][2][:b], block, *middle[f][2][b + 1:]))
        bent = (*middle[:f], made, *middle[f + 1:])
        if second_right(bent) is None:
            return bent


def put_one(thing, chance):
    """A row or an end of which some operands of kind n are others."""
    def put(operand):
        plain = isinstance(operand, int) or operand[0] == "n"
        return chance.choice([0, 1, 2, "n0", "n1", "n2"]) if plain and chance.random() < 0.5 else operand
    return put_all(thing, put)
