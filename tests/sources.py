"""For tests: right sources made by chance from a seed, and a second runner of them, written another way.

The runner goes through the tree by calling itself, holds records as dicts, and ends a run by an exception.
"""

import random

OPS = {"add": "nn", "sub": "nn", "mul": "nn", "div": "nn", "rest": "nn", "less": "nn", "same": "nn", "pick": "nnn",
       "and": "nn", "or": "nn", "not": "n", "at": "rn", "size": "r"}
ROW_OPS = {"put": "rnn", "many": "nn"}
KIND = {"n": "num", "r": "row"}


class Stuck(Exception):
    pass


class Maker:
    def __init__(self, seed):
        self.chance = random.Random(seed)
        self.records = {}
        self.functions = {}

    def pick(self, things):
        if not things:
            raise Stuck()
        return self.chance.choice(things)

    def parts(self, kind):
        return 1 if kind in ("num", "row") else sum(self.parts(k) for k in self.records[kind].values())

    def source(self):
        lines = []
        for name in ("pa", "pb", "pc")[:self.chance.randrange(4)]:
            fields, left = {}, 4
            for field in ("x", "y", "z", "w")[:self.chance.randint(1, 4)]:
                kinds = [k for k in ("num", "row", "num", *self.records) if self.parts(k) <= left]
                if kinds:
                    fields[field] = self.pick(kinds)
                    left -= self.parts(fields[field])
            self.records[name] = fields
            lines.append(" ".join(["record", name, *[f"{f} {k}" for f, k in fields.items()]]))
        for name in ("f", "g", "h")[:self.chance.randint(1, 3)]:
            kinds = ["num", "num", "row", *self.records]
            params = {p: self.pick(kinds) for p in ("a", "b", "c", "d")[:self.chance.randrange(5)]}
            kind = self.pick(["num", "num", "row", *[k for k in params.values()]])
            self.functions[name] = (kind, params)
        for name, (kind, params) in self.functions.items():
            lines.append(" ".join(["function", name, kind, *[f"{p} {k}" for p, k in params.items()]]))
            lines.extend(self.body_of(name))
            lines.append("end")
        return "\n".join(lines)

    def body_of(self, name):
        while True:
            self.kind, scope = self.functions[name]
            self.statements, self.lets, self.turns = self.chance.randint(3, 15), 5, 8
            try:
                lines = self.body(dict(scope), 3) + [["give", *self.expr(self.kind, 12, scope)]]
                return [" ".join(line) for line in lines]
            except Stuck:
                continue

    def body(self, scope, deep):
        """Statements that do not end a body, at least one."""
        lines = []
        for k in range(self.chance.randint(1, 5)):
            if k == 0 or self.statements > 1:
                self.statements -= 1
                lines.extend(self.statement(scope, deep))
        return lines

    def statement(self, scope, deep):
        word = self.pick(["let", "set", "set", "put", "if", "while", "give"])
        if word == "let" and self.lets > 0:
            self.lets -= 1
            kind = self.pick(["num", "row", *scope.values()])
            e = self.expr(kind, 12, scope)
            name = "v" + "abcdefgh"[self.lets] + self.pick(["", "q"])
            scope[name] = kind
            return [["let", name, *e]]
        if word in ("if", "while") and self.turns > 1 and deep > 0 and self.statements > 2:
            self.turns -= 1
            return self.turn(word, scope, deep)
        if word == "put":
            paths = self.paths("row", scope)
            if paths:
                return [["put", self.pick(paths), *self.expr("num", 6, scope), *self.expr("num", 6, scope)]]
        kinds = sorted(set(k for k in ("num", "row", *self.records) if self.paths(k, scope)))
        kind = self.pick(kinds)
        return [["set", self.pick(self.paths(kind, scope)), *self.expr(kind, 12, scope)]]

    def turn(self, word, scope, deep):
        lines = [[word, *self.expr("num", 8, scope)], *self.body(dict(scope), deep - 1)]
        if self.statements > 1 and self.chance.random() < 0.3:
            self.statements -= 1
            lines.append(["give", *self.expr(self.kind, 12, scope)])
        if word == "if" and self.statements > 1 and self.chance.random() < 0.5:
            self.statements -= 1
            lines.append(["else"])
            lines.extend(self.body(dict(scope), deep - 1))
        return [*lines, ["end"]]

    def paths(self, kind, scope):
        told = []
        for name, own in scope.items():
            ways = [(name, own)]
            for depth in range(3):
                told.extend(way for way, k in ways if k == kind)
                ways = [(f"{way}.{f}", k2) for way, k in ways if k in self.records for f, k2 in self.records[k].items()]
        return told

    def expr(self, kind, most, scope):
        """The words of an expression of a kind, at most so many."""
        for tried in range(20):
            words = self.tried(kind, most, scope)
            if words is not None and len(words) <= most:
                return words
        raise Stuck()

    def tried(self, kind, most, scope):
        paths = self.paths(kind, scope)
        sort = self.pick(["path", "path", "plain", "op", "op", "op", "call"])
        if sort == "path":
            return [self.pick(paths)] if paths else None
        if sort == "call" and self.turns > 0:
            names = [name for name, (k, params) in self.functions.items() if k == kind]
            if names and most > 3:
                name = self.pick(names)
                self.turns -= 1
                params = self.functions[name][1].values()
                return ["call", name, str(len(params)), *self.all_of(params, most - 3, scope)]
        if kind in self.records:
            fields = self.records[kind].values()
            return ["new", kind, str(len(fields)), *self.all_of(fields, most - 3, scope)]
        if kind == "row":
            if sort == "plain" or most < 4:
                many = self.chance.randrange(4)
                return ["make", str(many), *[self.number() for k in range(many)]]
            op = self.pick(list(ROW_OPS))
            return [op, *self.all_of([KIND[k] for k in ROW_OPS[op]], most - 1, scope)]
        op = self.pick(list(OPS))
        if sort == "plain" or most < 4 or op in ("and", "or") and self.turns < 1:
            return [self.number()]
        self.turns -= op in ("and", "or")
        return [op, *self.all_of([KIND[k] for k in OPS[op]], most - 1, scope)]

    def all_of(self, kinds, most, scope):
        words = []
        for kind in kinds:
            words.extend(self.expr(kind, most - len(words), scope) if most > len(words) else self.pick([]))
        return words

    def number(self):
        return str(self.pick([0, 0, 1, 1, 2, 3, -1, -2, 5, 7, 40, 41, 32767, -32768]))

    def value(self, kind):
        """A value of a kind, by chance."""
        if kind == "num":
            return self.pick([0, 1, 2, 3, 4, -1, -3, 32767, -32768])
        if kind == "row":
            return tuple(self.value("num") for k in range(self.pick([0, 1, 2, 3, 5, 40])))
        return tuple(self.value(k) for k in self.records[kind].values())

    def values(self, name):
        return tuple(self.value(kind) for kind in self.functions[name][1].values())


class Over(Exception):
    """The end of a run, or of a function by its value."""


class Given(Exception):
    pass


def taken(whole):
    return (whole + 32768) % 65536 - 32768


class Second:
    """The second runner."""

    def __init__(self, tree, bound):
        self.records = {name: dict(fields) for name, fields in tree[0]}
        self.functions = {function[0]: function for function in tree[1]}
        self.bound = bound

    def loose(self, kind, value):
        if kind not in self.records:
            return value
        fields = self.records[kind]
        return {"": kind, **{f: self.loose(k, v) for (f, k), v in zip(fields.items(), value)}}

    def tight(self, value):
        if not isinstance(value, dict):
            return value
        return tuple(self.tight(value[field]) for field in value if field)

    def tick(self):
        if self.bound < 1:
            raise Over(("dry",))
        self.bound -= 1

    def call(self, name, values):
        variables = {p: v for (p, k), v in zip(self.functions[name][2], values)}
        try:
            self.body(self.functions[name][3], variables)
        except Given as given:
            return given.args[0]
        raise AssertionError("not ended")

    def body(self, body, vs):
        for statement in body:
            self.statement(statement, vs)

    def statement(self, statement, vs):
        word, rest = statement[0], statement[1:]
        if word == "let":
            vs[rest[0]] = self.own(self.value(rest[1], vs))
        elif word == "set":
            self.set(rest[0], self.own(self.value(rest[1], vs)), vs)
        elif word == "put":
            self.set(rest[0], self.value(("put", ("of", rest[0]), rest[1], rest[2]), vs), vs)
        elif word == "give":
            raise Given(self.own(self.value(rest[0], vs)))
        elif word == "if":
            self.body(rest[1] if self.value(rest[0], vs) else rest[2], vs)
        else:
            while self.value(rest[0], vs):
                self.tick()
                self.body(rest[1], vs)

    def own(self, value):
        return {f: self.own(v) for f, v in value.items()} if isinstance(value, dict) else value

    def set(self, path, value, vs):
        for name in path[:-1]:
            vs = vs[name]
        vs[path[-1]] = value

    def value(self, e, vs):
        if isinstance(e, int):
            return e
        word = e[0]
        if word == "of":
            for name in e[1]:
                vs = vs[name]
            return vs
        if word in ("and", "or"):
            first = self.value(e[1], vs)
            if bool(first) == (word == "or"):
                return int(word == "or")
            return int(bool(self.value(e[2], vs)))
        inner = [self.value(i, vs) for i in (e[2:] if word in ("call", "new") else e[1:])]
        if word == "call":
            self.tick()
            return self.call(e[1], [self.own(v) for v in inner])
        if word == "new":
            return {"": e[1], **dict(zip(self.records[e[1]], [self.own(v) for v in inner]))}
        return self.done(word, inner)

    def done(self, word, v):
        if word in ("div", "rest"):
            if v[1] == 0:
                raise Over(("fault", "nought"))
            return taken(divmod(v[0], v[1])[word == "rest"])
        if word in ("at", "put"):
            if v[1] not in range(len(v[0])):
                raise Over(("fault", "range"))
            if word == "at":
                return v[0][v[1]]
            row = list(v[0])
            row[v[1]] = v[2]
            return tuple(row)
        if word == "many":
            if v[0] not in range(41):
                raise Over(("fault", "long"))
            return tuple([v[1]] * v[0])
        plain = {"add": lambda: taken(v[0] + v[1]), "sub": lambda: taken(v[0] - v[1]), "mul": lambda: taken(v[0] * v[1]),
                 "less": lambda: int(v[0] < v[1]), "same": lambda: int(v[0] == v[1]), "size": lambda: len(v[0]),
                 "pick": lambda: v[1] if v[0] else v[2], "not": lambda: int(not v[0]), "make": lambda: tuple(v)}
        return plain[word]()


def second_run(tree, name, values, bound):
    second = Second(tree, bound)
    params = second.functions[name][2]
    try:
        value = second.call(name, [second.loose(k, v) for (p, k), v in zip(params, values)])
        return ("back", second.tight(value))
    except Over as over:
        return over.args[0]
