"""Bare middles: without rows and params that nothing reads."""

from samepaper.given import come_to
from samepaper.lives import Lives
from samepaper.remaking import made_by, own_operands, results_laid, ways_of, with_ways
from samepaper.shapes import is_need, name_given


class Baring:
    """A function that is once, and which of its names are read."""

    def __init__(self, middle, number):
        self.middle = middle
        self.number = number
        self.function = middle[number]
        self.blocks = self.function[2]
        self.reached = come_to(self.function)
        self.numbers = {block: at for at, block in enumerate(self.reached)}
        self.stays = {name: True for name in self.blocks[0][0]}
        self.due = []
        self.sources = {}
        self.note_results()
        for block in self.reached:
            self.note_sources(block)
        self.read_all()

    def note_results(self):
        """Params into which results are laid stay."""
        for block in self.reached:
            end = self.blocks[block][2]
            for target, args in ways_of(end):
                for name in self.blocks[target][0][:results_laid(self.middle, end)]:
                    self.stays[name] = True

    def note_sources(self, block):
        """Notes what is read at all events, and what each name comes from."""
        params, rows, end = self.blocks[block]
        for row in rows:
            if is_need(row):
                self.due.extend(row[2:])
            elif name_given(row) is not None:
                self.sources[row[0]] = list(row[2])
        self.due.extend(own_operands(end))
        for target, args in ways_of(end):
            taken = self.blocks[target][0][results_laid(self.middle, end):]
            for name, operand in zip(taken, args):
                if name in self.stays:
                    self.due.append(operand)
                else:
                    self.sources.setdefault(name, []).append(operand)

    def read_all(self):
        """Lets those stay that are read, and those that are read for them."""
        while self.due:
            name = self.due.pop()
            if name in self.sources and name not in self.stays:
                self.stays[name] = True
                self.due.extend(self.sources[name])

    def kept(self, names, things):
        """Of the things that belong to these names those whose names stay."""
        return tuple([thing for name, thing in zip(names, things) if name in self.stays])

    def block_made(self, block):
        params, rows, end = self.blocks[block]
        rows = [row for row in rows if name_given(row) is None or row[0] in self.stays]
        ways = []
        for target, args in ways_of(end):
            taken = self.blocks[target][0][results_laid(self.middle, end):]
            ways.append((self.numbers[target], self.kept(taken, args)))
        return (self.kept(params, params), tuple(rows), with_ways(end, ways))

    def function_made(self):
        return self.function[:2] + (tuple([self.block_made(block) for block in self.reached]),)

    def matches_made(self, made):
        lives = Lives(made)
        matches = []
        for at, block in enumerate(self.reached):
            holds = [(name, (0, name)) for name in lives.wanted_at(at)]
            matches.append((((self.number, block),), (), tuple(holds), ()))
        return tuple(matches)


def bare(middle):
    """Of a small once middle a bare one, and its paper."""
    return made_by([Baring(middle, number) for number in range(len(middle))])
