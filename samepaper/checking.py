"""The small checker: whether a paper bears out that two middles mean the same."""

from samepaper.errors import NoPaper
from samepaper.forms import Forms
from samepaper.middle import kind_of
from samepaper.papers import shape_asked
from samepaper.shapes import end_operands, is_need, is_tick, row_operands
from samepaper.terms import form_of, named_in


class Frame:
    """A frame of the one: its function, the block where it stands or waits, and the forms of its names."""

    def __init__(self, function, block, names):
        self.function = function
        self.block = block
        self.names = names

    def again(self):
        return Frame(self.function, self.block, {name: self.names[name] for name in self.names})


class Look:
    """A look at one block of the other, in a table of forms of its own.

    The one stands in its last frame ahead of the row self.ahead of the block there, at its begin where that is 0; the
    other stands at its row self.row.
    """

    def __init__(self, one, other, matches, function, block):
        self.one = one
        self.other = other
        self.matches = matches
        self.function = function
        self.block = block
        self.row = 0
        self.forms = Forms()
        self.known = {}
        self.frames = []
        self.ahead = 0
        self.names = {}

    def begin(self):
        """Both stand at block 0 of the function, their params the same things."""
        self.row = -1
        params = self.one[self.function][2][0][0]
        things = [self.forms.thing(kind_of(name), ("param", at)) for at, name in enumerate(params)]
        self.frames = [Frame(self.function, 0, dict(zip(params, things)))]
        self.names = dict(zip(self.other[self.function][2][0][0], things))

    def stand(self):
        """The one stands at the begin of the match's place, and the other has the names that it holds."""
        place, stands, holds, knows = self.matches[self.block]
        self.frames = [Frame(function, block, {}) for function, block in place]
        for (depth, name), term in stands:
            self.frames[depth].names[name] = self.form_of_term(term)
        self.names = {name: self.form_of_term(term) for name, term in holds}
        for term, truth in knows:
            form = self.form_of_term(term)
            if self.forms.whole(form) is None:
                self.known[form] = truth

    def form_at(self, depth, name):
        """The form of a name of the one; one that nothing told yet is a thing of its own."""
        names = self.frames[depth].names
        if name not in names:
            names[name] = self.forms.thing(kind_of(name), (depth, name))
        return names[name]

    def form_of_term(self, term):
        names = {(depth, name): self.form_at(depth, name) for depth, name in named_in(term)}
        return form_of(self.forms, term, names)

    def form_read(self, operand):
        """The form of an operand of the one's last frame."""
        if isinstance(operand, int):
            return self.forms.plain(operand)
        return self.form_at(len(self.frames) - 1, operand)

    def forms_read(self, operands):
        return tuple([self.form_read(operand) for operand in operands])

    def form_told(self, operand):
        """The form of an operand of the other."""
        if isinstance(operand, int):
            return self.forms.plain(operand)
        if operand not in self.names:
            raise NoPaper(self.function, self.block, self.row, "name")
        return self.names[operand]

    def forms_told(self, operands):
        return tuple([self.form_told(operand) for operand in operands])

    def truth_of(self, form):
        """Whether a form is not 0, by its plain number or by what is known; None where neither tells."""
        number = self.forms.whole(form)
        return self.known.get(form) if number is None else number != 0

    def place(self):
        return tuple([(frame.function, frame.block) for frame in self.frames])

    def come(self, block, forms):
        """The one comes to a block of its last frame."""
        frame = self.frames[-1]
        frame.block = block
        frame.names.update(dict(zip(self.one[frame.function][2][block][0], forms)))
        self.ahead = 0

    def next_event(self, goal):
        """The one goes on to its next event, which is told, or None where it comes to stand at this place."""
        event = None
        while event is None and (self.ahead > 0 or self.place() != goal):
            frame = self.frames[-1]
            params, rows, end = self.one[frame.function][2][frame.block]
            event = self.pass_row(rows[self.ahead]) if self.ahead < len(rows) else self.pass_end(end)
        return event

    def pass_row(self, row):
        """The one goes past a row, unless that is an event, which is told."""
        if is_tick(row):
            return ("tick",)
        if is_need(row):
            form = self.form_read(row[2])
            if self.truth_of(form) is not True:
                return ("need", row[1], form)
        else:
            name, op, operands = row
            self.frames[-1].names[name] = self.forms.made(op, self.forms_read(operands))
        self.ahead += 1
        return None

    def pass_end(self, end):
        """The one goes past an end, unless that is an event, which is told."""
        word = end[0]
        if word == "call":
            return ("call", end[1], self.forms_read(end[2]))
        if word == "give":
            return self.pass_give(self.forms_read(end[1]))
        if word == "go":
            self.come(end[1], self.forms_read(end[2]))
            return None
        truth = self.truth_of(self.form_read(end[1]))
        if truth is None:
            raise NoPaper(self.function, self.block, self.row, "open")
        way = 2 if truth else 4
        self.come(end[way], self.forms_read(end[way + 1]))
        return None

    def pass_give(self, forms):
        if len(self.frames) == 1:
            return ("give", forms)
        self.frames.pop()
        self.come(self.frames[-1].block, forms)
        return None

    def meet(self, event):
        """The other's event has to meet the next one of the one, which goes past it (a call: look_call does)."""
        met = self.next_event(None)
        if event[0] == "tick" and met[0] == "call":
            self.enter(met[1], met[2])
        elif event[0] == "give" and met[0] == "give":
            if event != met:
                raise NoPaper(self.function, self.block, self.row, "give")
        elif event != met:
            raise NoPaper(self.function, self.block, self.row, "event")
        elif event[0] != "call":
            self.ahead += 1

    def call_met(self):
        """The end at which the one stands: a call."""
        frame = self.frames[-1]
        return self.one[frame.function][2][frame.block][2]

    def enter(self, callee, args):
        """The one goes on within the function that it calls; its last frame waits for the results."""
        word, number, operands, block, more = self.call_met()
        # What is more is laid at once: nothing reads it ahead of the results.
        many = len(self.one[callee][1])
        params = self.one[self.frames[-1].function][2][block][0]
        self.frames[-1].names.update(dict(zip(params[many:], self.forms_read(more))))
        self.frames[-1].block = block
        self.frames.append(Frame(callee, 0, {}))
        self.come(0, args)

    def look_rows(self):
        """The other's rows go by; False where nothing behind one of them is looked at."""
        for row in self.other[self.function][2][self.block][1]:
            if not self.look_row(row):
                return False
            self.row += 1
        return True

    def look_row(self, row):
        forms = self.forms_told(row_operands(row))
        if is_tick(row):
            self.meet(("tick",))
        elif is_need(row):
            return self.look_need(row[1], forms[0])
        else:
            self.names[row[0]] = self.forms.made(row[1], forms)
        return True

    def look_need(self, word, form):
        """The other's need goes by; False where the run surely ends there."""
        truth = self.truth_of(form)
        if truth is not True:
            self.meet(("need", word, form))
        if truth is None:
            self.known[form] = True
        return truth is not False

    def look_end(self):
        """The other's end goes by; the numbers of the blocks that it comes to are told."""
        end = self.other[self.function][2][self.block][2]
        if end[0] == "fork":
            return self.look_fork(end)
        forms = self.forms_told(end_operands(end))
        if end[0] == "give":
            self.meet(("give", forms))
            return []
        if end[0] == "call":
            many = len(end[2])
            forms = self.look_call(end[1], forms[:many]) + forms[many:]
        block = end[1] if end[0] == "go" else end[3]
        self.arrive(block, forms)
        return [block]

    def look_call(self, callee, args):
        """Both call; the results, the same new things in both, are told."""
        self.meet(("call", callee, args))
        word, number, operands, block, more = self.call_met()
        kinds = self.other[callee][1]
        things = tuple([self.forms.thing(kind, ("result", at)) for at, kind in enumerate(kinds)])
        self.come(block, things + self.forms_read(more))
        return things

    def look_fork(self, end):
        form = self.form_told(end[1])
        truth = self.truth_of(form)
        if truth is not None:
            return [self.look_way(end, truth)]
        # Both ways stand as ahead: what the first one moves is kept.
        frames = [frame.again() for frame in self.frames]
        ahead = self.ahead
        names = {name: self.names[name] for name in self.names}
        self.known[form] = True
        first = self.look_way(end, True)
        self.frames, self.ahead, self.names = frames, ahead, names
        self.known[form] = False
        return [first, self.look_way(end, False)]

    def look_way(self, end, truth):
        way = 2 if truth else 4
        self.arrive(end[way], self.forms_told(end[way + 1]))
        return end[way]

    def arrive(self, block, forms):
        """The other comes to a block with these forms laid into its params."""
        if self.matches[block] is None:
            raise NoPaper(self.function, self.block, self.row, "place")
        self.names.update(dict(zip(self.other[self.function][2][block][0], forms)))
        if self.next_event(self.matches[block][0]) is not None:
            raise NoPaper(self.function, self.block, self.row, "place")
        self.ask(self.matches[block])

    def ask(self, match):
        """Asks what a match tells of the states where both stand now."""
        place, stands, holds, knows = match
        for (depth, name), term in stands:
            if self.form_at(depth, name) != self.form_of_term(term):
                raise NoPaper(self.function, self.block, self.row, "stand")
        for name, term in holds:
            if self.names.get(name) != self.form_of_term(term):
                raise NoPaper(self.function, self.block, self.row, "hold")
        for term, truth in knows:
            if self.truth_of(self.form_of_term(term)) != truth:
                raise NoPaper(self.function, self.block, self.row, "know")


def check_function(one, other, matches, function):
    """Looks at all blocks of a function of the other that are come to."""
    first = Look(one, other, matches, function, 0)
    first.begin()
    if matches[0] is None or matches[0][0] != ((function, 0),):
        raise NoPaper(function, 0, -1, "place")
    first.ask(matches[0])
    looked = {}
    ahead = [0]
    while ahead:
        block = min(ahead)
        looked[block] = True
        look = Look(one, other, matches, function, block)
        look.stand()
        reached = look.look_end() if look.look_rows() else []
        ahead = [number for number in ahead + reached if number not in looked]


def checked(one, other, paper):
    """True for a paper that is let by for two right middles, else NoPaper."""
    shape_asked(one, other, paper)
    for function in range(len(other)):
        check_function(one, other, paper[function], function)
    return True
