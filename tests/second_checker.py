"""For tests: a second table of forms and a second checker, written another way.

A form is the whole of what it is made of, so that equal ones are equal things: a frozen sum (number, things with their
multiples) or a row's thing. The checker goes on by new states, and tells where a paper breaks instead of refusing it.
"""

from middles import second_given

from samepaper.numbers import done

KINDS = {
    "add": "nn", "sub": "nn", "mul": "nn", "div": "nn", "rest": "nn", "less": "nn", "same": "nn", "pick": "nnn",
    "copy": "n", "at": "rn", "size": "r", "put": "rnn", "many": "nn", "make": None, "keep": "r",
}
ROWS = ("put", "many", "make", "keep")


def taken(whole):
    return (whole + 32768) % 65536 - 32768


def plain(number):
    return ("sum", taken(number), frozenset())


def thing(kind, label):
    return rowed(kind, ("label", kind, label))


def rowed(kind, what):
    return ("sum", 0, frozenset([(what, 1)])) if kind == "n" else ("row", what)


def whole(form):
    return form[1] if form[0] == "sum" and not form[2] else None


def plus(one, other, times):
    things = {}
    for sum_, often in ((one, 1), (other, times)):
        for what, many in sum_[2]:
            things[what] = taken(things.get(what, 0) + many * often)
    return ("sum", taken(one[1] + other[1] * times), frozenset((w, m) for w, m in things.items() if m))


def made(op, forms):
    n = [whole(form) for form in forms]
    if op in ("copy", "keep"):
        return forms[0]
    if op not in ROWS and None not in n:
        return plain(done(op, tuple(n)))
    told = ruled(op, forms, n)
    return rowed("r" if op in ROWS else "n", (op, *forms)) if told is None else told


def ruled(op, f, n):
    inner = f[0][1] if f and f[0][0] == "row" else (None,)
    if op in ("add", "sub"):
        return plus(f[0], f[1], 1 if op == "add" else -1)
    if op == "mul":
        known = [k for k in (0, 1) if n[k] is not None]
        if known:
            return plus(plain(0), f[1 - known[0]], n[known[0]])
        return rowed("n", ("mul", frozenset([f[0], f[1]])))
    if op == "div" and n[1] in (0, 1):
        return f[0] if n[1] else plain(0)
    if op == "rest" and n[1] in (0, 1):
        return plain(0) if n[1] else f[0]
    if op == "less" and f[0] == f[1]:
        return plain(0)
    if op == "same":
        gap, back = plus(f[0], f[1], -1), plus(f[1], f[0], -1)
        return plain(int(whole(gap) == 0)) if whole(gap) is not None else rowed("n", ("same", frozenset([gap, back])))
    if op == "pick" and (n[0] is not None or f[1] == f[2]):
        return f[2] if n[0] == 0 else f[1]
    if op == "at" and n[1] is not None and inner[0] == "make":
        return dict(enumerate(inner[1:])).get(n[1], plain(0))
    if op == "at" and n[1] is not None and inner[0] == "many" and whole(inner[1]) is not None:
        return inner[2] if n[1] in range(min(40, whole(inner[1]))) else plain(0)
    if op == "size":
        while inner[0] == "put":
            f, inner = [inner[1]], inner[1][1]
        if inner[0] == "make":
            return plain(len(inner) - 1)
        if inner[0] == "many" and whole(inner[1]) is not None:
            return plain(len(range(min(40, whole(inner[1])))))
        return rowed("n", ("size", f[0]))
    if op == "put" and inner[0] == "make" and n[1] is not None:
        parts = list(inner[1:])
        if n[1] in range(len(parts)):
            parts[n[1]] = f[2]
        return ("row", ("make", *parts))
    return None


def term_form(term, names):
    if isinstance(term, int):
        return plain(term)
    if isinstance(term[0], int):
        return names[term]
    return made(term[0], [term_form(inner, names) for inner in term[1:]])


class Break(Exception):
    pass


class State:
    """Where the one stands: frames (function, block, names), the row in the last one, and what is known."""

    def __init__(self, one, frames, row, known):
        self.one, self.frames, self.row, self.known = one, frames, row, known

    def again(self, known=None):
        frames = [(f, b, dict(names)) for f, b, names in self.frames]
        return State(self.one, frames, self.row, dict(known or self.known))

    def block(self):
        f, b, names = self.frames[-1]
        return self.one[f][2][b]

    def of(self, operands):
        names = self.frames[-1][2]
        return [names[o] if isinstance(o, str) else plain(o) for o in operands]

    def truth(self, form):
        return bool(whole(form)) if whole(form) is not None else self.known.get(form)

    def come(self, block, forms):
        f, b, names = self.frames[-1]
        names.update(zip(self.one[f][2][block][0], forms))
        self.frames[-1] = (f, block, names)
        self.row = 0

    def place(self):
        return tuple((f, b) for f, b, names in self.frames) if self.row == 0 else None

    def step(self):
        """An event ahead, told with its forms, or None where one step was gone."""
        params, rows, end = self.block()
        if self.row < len(rows):
            row = rows[self.row]
            if row == ("tick",):
                return ("tick",)
            if row[0] == "need":
                form, = self.of(row[2:])
                if not self.truth(form):
                    return ("need", row[1], form)
            else:
                self.frames[-1][2][row[0]] = made(row[1], self.of(row[2]))
            self.row += 1
        elif end[0] == "go":
            self.come(end[1], self.of(end[2]))
        elif end[0] == "fork":
            truth = self.truth(self.of(end[1:2])[0])
            if truth is None:
                raise Break("open")
            self.come(*((end[2], self.of(end[3])) if truth else (end[4], self.of(end[5]))))
        elif end[0] == "give":
            if len(self.frames) == 1:
                return ("give", self.of(end[1]))
            forms = self.of(end[1])
            self.frames.pop()
            self.come(self.frames[-1][1], forms)
        else:
            return ("call", end[1], self.of(end[2]))
        return None

    def event(self, goal=()):
        while self.place() != goal:
            told = self.step()
            if told:
                return told
        return None

    def meet(self, event):
        told = self.event()
        if event[0] == "tick" and told[0] == "call":
            end = self.block()[2]
            f, b, names = self.frames[-1]
            params = self.one[f][2][end[3]][0][len(self.one[end[1]][1]):]
            names.update(zip(params, self.of(end[4])))
            self.frames[-1] = (f, end[3], names)
            self.frames.append((end[1], None, {}))
            self.come(0, told[2])
        elif event[0] != told[0]:
            raise Break("event")
        elif event != told:
            raise Break("give" if event[0] == "give" else "event")
        elif event[0] in ("tick", "need"):
            self.row += 1

    def term(self, term):
        names = {(d, name): form for d, frame in enumerate(self.frames) for name, form in frame[2].items()}
        return term_form(term, names)

    def asked(self, match, names):
        for (d, name), term in match[1]:
            if self.frames[d][2][name] != self.term(term):
                raise Break("stand")
        for name, term in match[2]:
            if name not in names or names[name] != self.term(term):
                raise Break("hold")
        for term, truth in match[3]:
            if self.truth(self.term(term)) is not truth:
                raise Break("know")


class Looked:
    """One function of the other looked at; self.at tells where it stands."""

    def __init__(self, one, other, paper, f):
        self.one, self.other, self.matches, self.f = one, other, paper[f], f
        self.blocks = other[f][2]
        self.given = [second_given(function) for function in one]
        self.at = (f, 0, -1)

    def all(self):
        params = self.one[self.f][2][0][0]
        things = [thing(name[0], ("p", k)) for k, name in enumerate(params)]
        if self.matches[0] is None or self.matches[0][0] != ((self.f, 0),):
            raise Break("place")
        begin = State(self.one, [(self.f, 0, dict(zip(params, things)))], 0, {})
        begin.asked(self.matches[0], dict(zip(self.blocks[0][0], things)))
        come, looked = {0}, set()
        while come - looked:
            b = min(come - looked)
            looked.add(b)
            come |= set(self.look(b))

    def begin(self, b):
        place, stands, holds, knows = self.matches[b]
        frames = [(f, at, {name: thing(name[0], (d, name)) for name in self.given[f][at]})
                  for d, (f, at) in enumerate(place)]
        state = State(self.one, frames, 0, {})
        for (d, name), term in stands:
            frames[d][2][name] = state.term(term)
        for term, truth in knows:
            if whole(state.term(term)) is None:
                state.known[state.term(term)] = truth
        return state, {name: state.term(term) for name, term in holds}

    def read(self, operands, names):
        if any(isinstance(o, str) and o not in names for o in operands):
            raise Break("name")
        return [names[o] if isinstance(o, str) else plain(o) for o in operands]

    def look(self, b):
        state, names = self.begin(b)
        params, rows, end = self.blocks[b]
        for r, row in enumerate(rows):
            self.at = (self.f, b, r)
            if row == ("tick",):
                state.meet(row)
            elif row[0] == "need":
                form, = self.read(row[2:], names)
                truth = state.truth(form)
                if not truth:
                    state.meet(("need", row[1], form))
                    if truth is False:
                        return []
                    state.known[form] = True
            else:
                names[row[0]] = made(row[1], self.read(row[2], names))
        self.at = (self.f, b, len(rows))
        return self.end(end, state, names)

    def end(self, end, state, names):
        if end[0] == "go":
            return self.come(end[1], self.read(end[2], names), state, names)
        if end[0] == "give":
            state.meet(("give", self.read(end[1], names)))
            return []
        if end[0] == "fork":
            form, = self.read(end[1:2], names)
            truth = state.truth(form)
            told = []
            for way, block, args in ((True, end[2], end[3]), (False, end[4], end[5])):
                if truth in (None, way):
                    known = state.known if truth is way else {**state.known, form: way}
                    told += self.come(block, self.read(args, names), state.again(known), dict(names))
            return told
        args, more = self.read(end[2], names), self.read(end[4], names)
        state.meet(("call", end[1], args))
        results = [thing(kind, ("c", k)) for k, kind in enumerate(self.one[end[1]][1])]
        own = state.block()[2]
        state.come(own[3], results + state.of(own[4]))
        return self.come(end[3], results + more, state, names)

    def come(self, block, forms, state, names):
        if self.matches[block] is None:
            raise Break("place")
        names.update(zip(self.blocks[block][0], forms))
        if state.event(self.matches[block][0]) is not None:
            raise Break("place")
        state.asked(self.matches[block], names)
        return [block]


def second_checked(one, other, paper):
    """None, or the four fields of a refusal, of a paper whose shape is right."""
    for f in range(len(other)):
        looked = Looked(one, other, paper, f)
        try:
            looked.all()
        except Break as broken:
            return (*looked.at, broken.args[0])
    return None
