"""For tests: code made by chance from a seed, right and bent, and second ways to ask and to run it."""

import random

from middles import KINDS

from samepaper.numbers import done

BOXES = {"n": [f"n{k}" for k in range(8)], "r": [f"r{k}" for k in range(4)]}
PLAIN = [0, 0, 1, 2, 3, -1, 7, 32767, -32768]
OPS = [*KINDS, "make", "add", "copy"]


def kinds_for(op, chance):
    return KINDS.get(op) or ("r", "n" * chance.randrange(9))


class CodeMaker:
    """Makes right code: pieces that begin with cells of sure kinds, and jumps, branches and calls between them."""

    def __init__(self, seed, functions=3, pieces=6, steps=7):
        self.chance = random.Random(seed)
        self.most = functions, pieces, steps

    def code(self):
        functions, pieces, steps = self.most
        text = lambda most: "".join(self.chance.choice("nnr") for k in range(self.chance.randrange(most)))
        self.faces = [("fghabc"[k], text(4), text(3)) for k in range(self.chance.randint(1, functions))]
        return tuple(self.function(number) for number in range(len(self.faces)))

    def function(self, number):
        word, takes, results = self.faces[number]
        # Cells that have one kind everywhere, and some of which a piece lays whatever it likes into.
        self.kinds = takes + "".join(self.chance.choice("nr") for k in range(self.chance.randrange(4)))
        self.loose = self.chance.randrange(4)
        self.steps, self.begins, self.results = [], {}, results
        if len(self.kinds) > len(takes) or self.chance.random() < 0.5:
            self.begin(takes)
        many = self.chance.randint(1, self.most[1])
        for piece in range(many):
            self.piece(piece, many)
        order = {piece: at for piece, at in self.begins.items()}
        steps = [(*step[:-1], order[step[-1]]) if step[0] in ("jump", "branch") else step for step in self.steps]
        return (word, takes, results, len(self.kinds) + self.loose, tuple(steps))

    def begin(self, takes):
        for place in range(len(takes), len(self.kinds)):
            box = self.chance.choice(BOXES[self.kinds[place]])
            self.steps += [("copy", box, (place,)) if box[0] == "n" else ("make", box, (place, 2)), ("store", place, box)]
        if self.chance.random() < 0.3:
            self.steps.append(("jump", 0))

    def piece(self, piece, many):
        self.begins[piece] = len(self.steps)
        self.known, self.laid = set(), {}
        if self.chance.random() < 0.1:
            # Some pieces are nothing but a jump.
            self.steps.append(("jump", self.chance.randrange(piece + 1, many)) if piece + 1 < many else self.give())
            return
        for k in range(self.chance.randrange(self.most[2] + 1)):
            self.step(number=piece)
        self.last(piece, many)

    def places(self, kind):
        """Places of cells of a kind that may be read here."""
        loose = [place for place, told in self.laid.items() if told == kind]
        return [place for place, told in enumerate(self.kinds) if told == kind] + loose

    def box_read(self, kind):
        """A box of a kind that may be read here; a step that gives it is laid where there is none."""
        known = [box for box in BOXES[kind] if box in self.known]
        if known and self.chance.random() < 0.8:
            return self.chance.choice(known)
        box = self.chance.choice(BOXES[kind])
        places = self.places(kind)
        if places and self.chance.random() < 0.7:
            self.steps.append(("load", box, self.chance.choice(places)))
        else:
            self.steps.append(("copy", box, (self.chance.choice(PLAIN),)) if kind == "n" else ("make", box, (1, 2)))
        self.known.add(box)
        return box

    def operand(self, kind):
        if kind == "n" and self.chance.random() < 0.3:
            return self.chance.choice(PLAIN)
        return self.box_read(kind)

    def any_operand(self, kind):
        """An operand of a call or give: a cell, too."""
        places = self.places(kind)
        if places and self.chance.random() < 0.5:
            return (kind, self.chance.choice(places))
        return self.operand(kind)

    def all_operands(self, kinds):
        return tuple(self.any_operand(kind) for kind in kinds)

    def cell_to_lay(self, kind):
        loose = [place for place in range(len(self.kinds), len(self.kinds) + self.loose)]
        fits = [place for place, told in enumerate(self.kinds) if told == kind] + loose
        return self.chance.choice(fits) if fits else None

    def lay(self, place, kind):
        if place >= len(self.kinds):
            self.laid[place] = kind

    def step(self, number):
        sort = self.chance.random()
        if sort < 0.1:
            self.steps.append(("tick",))
        elif sort < 0.2:
            operand = self.operand("n")
            self.steps.append(("need", self.chance.choice(["bad", "worse"]), operand))
        elif sort < 0.4:
            kind = self.chance.choice("nr")
            place = self.cell_to_lay(kind)
            if place is not None:
                self.steps.append(("store", place, self.box_read(kind)))
                self.lay(place, kind)
        elif sort < 0.5:
            self.call()
        else:
            op = self.chance.choice(OPS)
            kind, kinds = kinds_for(op, self.chance)
            operands = tuple(self.operand(k) for k in kinds)
            # One operand's step may give the box of another one anew, which is still of its kind.
            box = self.chance.choice(BOXES[kind])
            self.steps.append((op, box, operands))
            self.known.add(box)

    def call(self):
        callee = self.chance.randrange(len(self.faces))
        word, takes, results = self.faces[callee]
        operands = self.all_operands(takes)
        places = []
        for kind in results:
            fits = [p for p, told in enumerate(self.kinds) if told == kind] + list(range(len(self.kinds), len(self.kinds) + self.loose))
            fits = [p for p in fits if p not in places]
            if not fits:
                return
            places.append(self.chance.choice(fits))
        self.steps.append(("call", callee, operands, tuple(zip(results, places))))
        self.known = set()
        for place, kind in zip(places, results):
            self.lay(place, kind)

    def give(self):
        return ("give", self.all_operands(self.results))

    def last(self, piece, many):
        sort = self.chance.random()
        later = list(range(piece + 1, many))
        if sort < 0.3 or not later:
            self.steps.append(self.give())
        elif sort < 0.5:
            self.lay_way("jump", piece, many)
        elif sort < 0.85:
            self.lay_way("branch", piece, many)
            if self.chance.random() < 0.5:
                self.lay_way("jump", piece, many)

    def lay_way(self, word, piece, many):
        """A jump or a branch to some piece, with a tick ahead of one that leads back."""
        target = self.chance.randrange(many)
        if target <= piece:
            self.steps.append(("tick",))
        operand = (self.operand("n"),) if word == "branch" else ()
        self.steps.append((word, *operand, target))

    def value(self, kind):
        if kind == "n":
            return self.chance.choice([0, 1, 2, -1, 5, 32767])
        return tuple(self.chance.choice([0, 1, 7]) for k in range(self.chance.randrange(4)))

    def values(self, code, number):
        return tuple(self.value(kind) for kind in code[number][1])


def bent_code(code, chance):
    """Code that differs in one step, or in one thing of one; it may not be right."""
    f = chance.randrange(len(code))
    word, takes, results, cells, steps = code[f]
    steps = list(steps)
    at = chance.randrange(len(steps))
    sort = chance.choice(["drop", "again", "swap", "operand", "operand", "operand", "cells", "tick"])
    if sort == "drop" and len(steps) > 1:
        del steps[at]
    elif sort == "again":
        steps.insert(chance.randrange(len(steps) + 1), steps[at])
    elif sort == "swap":
        steps.insert(chance.randrange(len(steps)), steps.pop(at))
    elif sort == "operand":
        steps[at] = bent_thing(steps[at], chance)
    elif sort == "cells":
        cells = max(0, cells + chance.choice([-1, 1]))
    else:
        steps.insert(at, ("tick",))
    return (*code[:f], (word, takes, results, cells, tuple(steps)), *code[f + 1:])


def bent_thing(thing, chance):
    """A thing with one that it has within changed."""
    if isinstance(thing, tuple) and thing:
        at = chance.randrange(len(thing))
        return (*thing[:at], bent_thing(thing[at], chance), *thing[at + 1:])
    if isinstance(thing, int):
        return chance.choice([thing + 1, thing - 1, 0, "n0"])
    if isinstance(thing, str) and thing[1:].isdigit():
        return chance.choice([f"{thing[0]}{k}" for k in range(9)] + [0, 1])
    return chance.choice([thing, "jump", "add", "n", "r", "bad"])


def is_text_of(thing, signs, least, most):
    return isinstance(thing, str) and least <= len(thing) <= most and not set(thing) - set(signs)


def whole(thing, least, most):
    return type(thing) is int and least <= thing <= most


def plain(thing, kind):
    return thing in BOXES[kind] if isinstance(thing, str) else kind == "n" and whole(thing, -32768, 32767)


def cell(thing, kind, cells):
    return type(thing) is tuple and len(thing) == 2 and thing[0] == kind and whole(thing[1], 0, cells - 1)


def all_of(things, kinds, fits):
    return type(things) is tuple and len(things) == len(kinds) and all(fits(t, k) for t, k in zip(things, kinds))


LETTERS = "abcdefghijklmnopqrstuvwxyz"


def step_fits(step, code, f):
    if type(step) is not tuple or not step or not isinstance(step[0], str):
        return False
    word, takes, results, cells, steps = code[f]
    loose = lambda thing, kind: plain(thing, kind) or cell(thing, kind, cells)
    box = lambda thing: isinstance(thing, str) and thing in BOXES["n"] + BOXES["r"]
    asks = {
        "load": (3, lambda b, place: box(b) and whole(place, 0, cells - 1)),
        "store": (3, lambda place, b: box(b) and whole(place, 0, cells - 1)),
        "need": (3, lambda w, o: is_text_of(w, LETTERS, 1, 8) and plain(o, "n")),
        "tick": (1, lambda: True),
        "jump": (2, lambda s: whole(s, 0, len(steps) - 1)),
        "branch": (3, lambda o, s: plain(o, "n") and whole(s, 0, len(steps) - 1)),
        "call": (4, lambda g, args, laid: whole(g, 0, len(code) - 1) and all_of(args, code[g][1], loose)
                 and all_of(laid, code[g][2], lambda t, k: cell(t, k, cells)) and len({t[1] for t in laid}) == len(laid)),
        "give": (2, lambda args: all_of(args, results, loose)),
        "make": (3, lambda b, args: isinstance(b, str) and b in BOXES["r"] and type(args) is tuple and len(args) < 9
                 and all_of(args, "n" * len(args), plain)),
    }
    for op, (kind, kinds) in KINDS.items():
        asks[op] = (3, lambda b, args, kind=kind, kinds=kinds: isinstance(b, str) and b in BOXES[kind] and all_of(args, kinds, plain))
    many, fits = asks.get(step[0], (-1, None))
    return len(step) == many and fits(*step[1:])


def goes_to(step, at):
    return {"give": lambda: [], "jump": lambda: [step[1]], "branch": lambda: [step[2], at + 1]}.get(step[0], lambda: [at + 1])()


def lacks(step, boxes, cells):
    """Whether a step reads a box that is not given, or a cell otherwise than what lies there."""
    told = {"load": lambda: [(step[1][0], step[2])], "store": lambda: [step[2]], "need": lambda: [step[2]], "branch": lambda: [step[1]],
            "call": lambda: step[2], "give": lambda: step[1], "tick": lambda: (), "jump": lambda: ()}.get(step[0], lambda: step[2])()
    return any(o not in boxes if isinstance(o, str) else isinstance(o, tuple) and o not in cells for o in told)


def passed(step, boxes, cells):
    """What is given and lies in cells, as (kind, place), behind a step."""
    laid = {"store": lambda: [(step[2][0], step[1])], "call": lambda: step[3]}.get(step[0], lambda: ())()
    cells = {(k, p) for k, p in cells if p not in [place for kind, place in laid]} | set(laid)
    if step[0] == "call":
        return set(), cells
    gives = {step[1]} if step[0] not in ("store", "need", "tick", "jump", "branch", "give") else set()
    return boxes | gives, cells


def second_states(function):
    """For each step that can be come to what is surely given and lies in cells ahead of it."""
    word, takes, results, many, steps = function
    told = {0: (set(), {(kind, place) for place, kind in enumerate(takes)})}
    ahead = [0]
    while ahead:
        at = ahead.pop(0)
        state = passed(steps[at], *told[at])
        for to in goes_to(steps[at], at):
            if to < len(steps):
                new = (state[0] & told[to][0], state[1] & told[to][1]) if to in told else state
                if told.get(to) != new:
                    told[to] = new
                    ahead.append(to)
    return told


def second_right_code(code):
    """None, or the fields of a refusal."""
    if type(code) is not tuple or not 1 <= len(code) <= 6:
        return (-1, -1)
    for f, function in enumerate(code):
        if type(function) is not tuple or len(function) != 5:
            return (f, -1)
        word, takes, results, cells, steps = function
        if not is_text_of(word, LETTERS, 1, 8) or word in [g[0] for g in code[:f]] or not is_text_of(takes, "nr", 0, 64):
            return (f, -1)
        if not is_text_of(results, "nr", 0, 4) or not whole(cells, len(takes), 10000) or type(steps) is not tuple or not 1 <= len(steps) <= 60000:
            return (f, -1)
    for f, function in enumerate(code):
        for s, step in enumerate(function[4]):
            if not step_fits(step, code, f):
                return (f, s)
    for f, function in enumerate(code):
        steps, states = function[4], second_states(function)
        faults = [s for s in states if lacks(steps[s], *states[s]) or len(steps) in goes_to(steps[s], s)]
        if faults:
            return (f, min(faults))
    for f, function in enumerate(code):
        steps = function[4]
        still = sorted(s for s in second_states(function) if steps[s][0] not in ("tick", "call"))
        far = {s: {t for t in goes_to(steps[s], s) if t in still} for s in still}
        for k in still:
            for s in still:
                if k in far[s]:
                    far[s] |= far[k]
        for s in still:
            if s in far[s]:
                return (f, s)
    return None


class Over(Exception):
    pass


class SecondMachine:
    """The second machine: it calls itself."""

    def __init__(self, code, bound):
        self.code, self.bound, self.boxes = code, bound, {}

    def tick(self):
        if self.bound < 1:
            raise Over(("dry",))
        self.bound -= 1

    def call(self, f, values):
        steps, cells, at = self.code[f][4], dict(enumerate(values)), 0
        of = lambda o: o if isinstance(o, int) else self.boxes[o] if isinstance(o, str) else cells[o[1]]
        while True:
            step = steps[at]
            at += 1
            if step[0] == "load":
                self.boxes[step[1]] = cells[step[2]]
            elif step[0] == "store":
                cells[step[1]] = self.boxes[step[2]]
            elif step[0] == "need":
                if of(step[2]) == 0:
                    raise Over(("fault", step[1]))
            elif step[0] == "tick":
                self.tick()
            elif step[0] == "jump":
                at = step[1]
            elif step[0] == "branch":
                at = step[2] if of(step[1]) else at
            elif step[0] == "give":
                return tuple(map(of, step[1]))
            elif step[0] == "call":
                values = tuple(map(of, step[2]))
                self.tick()
                for (kind, place), value in zip(step[3], self.call(step[1], values)):
                    cells[place] = value
            else:
                self.boxes[step[1]] = done(step[0], tuple(map(of, step[2])))


def second_run_code(code, f, values, bound):
    try:
        return ("back", SecondMachine(code, bound).call(f, values))
    except Over as over:
        return over.args[0]


def as_code_tells(middle):
    """The words, kinds of parameters and results of a middle's functions, as code tells them."""
    return [(word, "".join(name[0] for name in blocks[0][0]), results) for word, results, blocks in middle]
