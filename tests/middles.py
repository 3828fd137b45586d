"""For tests: middles made by chance from a seed, right ones and others, and second ways to ask and to run them.

What is given for sure is asked name by name, along the ways on which a name is not given; the second runner calls itself.
"""

import random

from samepaper.numbers import done

KINDS = {
    "add": ("n", "nn"), "sub": ("n", "nn"), "mul": ("n", "nn"), "div": ("n", "nn"), "rest": ("n", "nn"),
    "less": ("n", "nn"), "same": ("n", "nn"), "pick": ("n", "nnn"), "copy": ("n", "n"), "at": ("n", "rn"),
    "size": ("n", "r"), "put": ("r", "rnn"), "many": ("r", "nn"), "keep": ("r", "r"),
}


class MiddleMaker:
    """Makes middles; now and then, as often as wrong tells, something that may be a fault."""

    def __init__(self, seed, wrong=0.0):
        self.chance = random.Random(seed)
        self.wrong = wrong

    def odd(self):
        return self.chance.random() < self.wrong

    def names(self, kind, many):
        return tuple(kind + str(k) for k in self.chance.sample(range(6), many))

    def middle(self):
        faces = []
        for number in range(self.chance.randint(1, 3)):
            blocks = self.chance.randint(1, 6)
            results = "".join(self.chance.choice("nnr") for k in range(self.chance.randrange(3)))
            params = [self.params() for k in range(blocks)]
            word = self.chance.choice(["f", "", "abcdefghi", "X"]) if self.odd() else "fgh"[number]
            faces.append((word, results + ("x" if self.odd() else ""), params))
        return tuple((word, results, tuple(self.block(faces, number, b) for b in range(len(params))))
                     for number, (word, results, params) in enumerate(faces))

    def params(self):
        names = self.names("n", self.chance.randrange(4)) + self.names("r", self.chance.randrange(2))
        if self.odd():
            return names + (self.chance.choice(["n0", "x", "n00", "r100000", ""]),)
        return names

    def block(self, faces, number, b):
        params = faces[number][2][b]
        live = list(params) + (["n0", "n1", "r0"] if self.odd() or self.chance.random() < 0.3 else [])
        rows = []
        for k in range(self.chance.randrange(6)):
            rows.append(self.row(live))
            if len(rows[-1]) == 3 and rows[-1][0] != "need":
                live.append(rows[-1][0])
        return (params, tuple(rows), self.end(faces, number, b, live))

    def row(self, live):
        sort = self.chance.random()
        if sort < 0.25:
            return ("tick",)
        if sort < 0.35:
            return ("need", self.chance.choice(["", "aB"]) if self.odd() else "bad", self.operand("n", live))
        op = self.chance.choice([*KINDS, "make"])
        kind, kinds = KINDS.get(op, ("r", "n" * self.chance.randrange(4)))
        if self.odd():
            kinds = self.chance.choice([kinds + "n", kinds[1:], "nr"])
        name = self.names(self.chance.choice("nr") if self.odd() else kind, 1)[0]
        op = self.chance.choice(["and", "", "make"]) if self.odd() else op
        return (name, op, tuple(self.operand(k, live) for k in kinds))

    def operand(self, kind, live):
        if self.odd():
            return self.chance.choice([32768, -32769, "n9", "r9", "", "n01", 5, "need"])
        names = [name for name in live if name[:1] == kind]
        if kind == "n" and (not names or self.chance.random() < 0.3):
            return self.chance.choice([0, 1, 2, 3, -1, 32767, -32768])
        return self.chance.choice(names or ["r0"])

    def args(self, params, live):
        args = tuple(self.operand(name[:1], live) for name in params)
        return args[1:] if self.odd() else args

    def way(self, faces, number, b, live):
        """A block and args, the block mostly a later one, so that rings do not lie everywhere."""
        many = len(faces[number][2])
        if self.odd():
            return self.chance.choice([-1, 0, many]), ()
        later = self.chance.random() < 0.7 and b + 1 < many
        block = self.chance.randrange(b + 1, many) if later else self.chance.randrange(1, many)
        return block, self.args(faces[number][2][block], live)

    def end(self, faces, number, b, live):
        sort = self.chance.choice(["go", "fork", "give", "call", "fork"])
        results = faces[number][1]
        if sort == "give" or len(faces[number][2]) == 1:
            return ("give", self.args([k + "0" for k in results], live))
        if sort == "fork":
            return ("fork", self.operand("n", live), *self.way(faces, number, b, live), *self.way(faces, number, b, live))
        block, args = self.way(faces, number, b, live)
        if sort == "go":
            return ("go", block, args)
        callee = self.chance.choice([-1, len(faces)]) if self.odd() else self.chance.randrange(len(faces))
        if callee not in range(len(faces)):
            return ("call", callee, (), block, args)
        told = faces[callee][1]
        return ("call", callee, self.args(faces[callee][2][0], live), block, args[len(told):])

    def value(self, name):
        if name[0] == "n":
            return self.chance.choice([0, 1, 2, -1, 5, 32767])
        return tuple(self.chance.choice([0, 1, 7]) for k in range(self.chance.randrange(4)))


def is_word(text):
    return 1 <= len(text) <= 8 and set(text) <= set("abcdefghijklmnopqrstuvwxyz")


def is_name(text):
    return text[:1] in ("n", "r") and text[1:] in {str(k) for k in range(100)} if len(text) < 4 else False


def fit(operands, kinds):
    def one(operand, kind):
        if isinstance(operand, str):
            return is_name(operand) and operand[0] == kind
        return kind == "n" and -32768 <= operand <= 32767
    return len(operands) == len(kinds) and all(one(o, k) for o, k in zip(operands, kinds))


def leads(end):
    return {"go": end[1:2], "fork": end[2:5:2], "call": end[3:4], "give": ()}[end[0]]


def reads(thing):
    """The names that a row or an end reads."""
    word = thing[0]
    told = {"go": lambda: thing[2], "fork": lambda: (thing[1], *thing[3], *thing[5]), "give": lambda: thing[1],
            "call": lambda: thing[2] + thing[4], "tick": lambda: (), "need": lambda: thing[2:]}
    operands = told[word]() if word in told else thing[2]
    return {o for o in operands if isinstance(o, str)}


def gives(row):
    return {row[0]} if len(row) == 3 and row[0] != "need" else set()


def second_come_to(function):
    come = {0}
    while True:
        more = come | {target for b in come for target in leads(function[2][b][2])}
        if more == come:
            return tuple(sorted(come))
        come = more


def second_given(function):
    """For each block the names given for sure, asked along the ways on which a name is not given."""
    blocks = function[2]
    names = {name for params, rows, end in blocks for name in params}
    names |= {name for params, rows, end in blocks for row in rows for name in gives(row)}
    told = {b: set(names) for b in second_come_to(function)}
    by_rows = [{name for row in rows for name in gives(row)} for params, rows, end in blocks]
    for name in names:
        ahead = [] if name in blocks[0][0] else [0]
        without = set(ahead)
        while ahead:
            b = ahead.pop()
            if name not in by_rows[b]:
                new = {t for t in leads(blocks[b][2]) if name not in blocks[t][0]} - without
                without |= new
                ahead.extend(new)
        for b in without:
            told[b].discard(name)
    return tuple(tuple(sorted(told[b])) if b in told else None for b in range(len(blocks)))


def second_right(middle):
    """None, or the three fields of a refusal."""
    for f, (word, results, blocks) in enumerate(middle):
        if f > 5 or not is_word(word) or word in [g[0] for g in middle[:f]] or not blocks:
            return (f, -1, -1)
        if len(results) > 4 or set(results) - set("nr"):
            return (f, -1, -1)
        for b, (params, rows, end) in enumerate(blocks):
            if b > 599 or len(params) > 64 or len(set(params)) != len(params) or not all(map(is_name, params)):
                return (f, b, -1)
    faults = []
    for f, function in enumerate(middle):
        for b, (params, rows, end) in enumerate(function[2]):
            faults += [(f, b, r) for r, row in enumerate(rows) if not row_fits(row)]
            faults += [] if end_fits(middle, function, end) else [(f, b, len(rows))]
    if faults:
        return faults[0]
    for f, function in enumerate(middle):
        for b, given in enumerate(second_given(function)):
            if given is not None:
                params, rows, end = function[2][b]
                for r, thing in enumerate([*rows, end]):
                    if reads(thing) - set(given) - {name for row in rows[:r] for name in gives(row)}:
                        faults.append((f, b, r))
    return faults[0] if faults else second_ring(middle)


def second_ring(middle):
    for f, (word, results, blocks) in enumerate(middle):
        still = [b for b in second_come_to((word, results, blocks))
                 if ("tick",) not in blocks[b][1] and blocks[b][2][0] != "call"]
        far = {b: {t for t in leads(blocks[b][2]) if t in still} for b in still}
        for k in still:
            for b in still:
                if k in far[b]:
                    far[b] |= far[k]
        rings = [b for b in still if b in far[b]]
        if rings:
            return (f, min(rings), -1)
    return None


def row_fits(row):
    if row == ("tick",):
        return True
    if row[0] == "need":
        return is_word(row[1]) and fit(row[2:], "n")
    name, op, operands = row
    if op == "make":
        return is_name(name) and name[0] == "r" and len(operands) < 9 and fit(operands, "n" * len(operands))
    return op in KINDS and is_name(name) and name[0] == KINDS[op][0] and fit(operands, KINDS[op][1])


def end_fits(middle, function, end):
    blocks = function[2]
    if any(not 0 < block < len(blocks) for block in leads(end)):
        return False
    kinds = ["".join(name[0] for name in blocks[block][0]) for block in leads(end)]
    if end[0] == "go":
        return fit(end[2], kinds[0])
    if end[0] == "fork":
        return fit(end[1:2], "n") and fit(end[3], kinds[0]) and fit(end[5], kinds[1])
    if end[0] == "give":
        return fit(end[1], function[1])
    if not 0 <= end[1] < len(middle):
        return False
    other = middle[end[1]]
    args = fit(end[2], "".join(name[0] for name in other[2][0][0]))
    told = len(other[1])
    return args and kinds[0][:told] == other[1] and fit(end[4], kinds[0][told:])


class Over(Exception):
    pass


class SecondRun:
    def __init__(self, middle, bound):
        self.middle, self.bound = middle, bound

    def tick(self):
        if self.bound == 0:
            raise Over(("dry",))
        self.bound -= 1

    def call(self, f, values):
        blocks, b, frame = self.middle[f][2], 0, {}

        def of(operands):
            return tuple(frame[o] if isinstance(o, str) else o for o in operands)

        while True:
            params, rows, end = blocks[b]
            for name, value in zip(params, values, strict=True):
                frame[name] = value
            for row in rows:
                if row == ("tick",):
                    self.tick()
                elif row[0] == "need":
                    if of(row[2:]) == (0,):
                        raise Over(("fault", row[1]))
                else:
                    frame[row[0]] = done(row[1], of(row[2]))
            if end[0] == "give":
                return of(end[1])
            if end[0] == "go":
                b, values = end[1], of(end[2])
            elif end[0] == "fork":
                b, values = (end[2], of(end[3])) if of(end[1:2]) != (0,) else (end[4], of(end[5]))
            else:
                self.tick()
                more = of(end[4])
                b, values = end[3], self.call(end[1], of(end[2])) + more


def second_run(middle, f, values, bound):
    try:
        return ("back", SecondRun(middle, bound).call(f, values))
    except Over as over:
        return over.args[0]
