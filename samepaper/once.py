"""Middles in which each name is given in just one place."""

from samepaper.given import Given, come_to, names_of
from samepaper.lives import Lives
from samepaper.remaking import NewNames, in_order, made_by, put_end, put_row, ways_of, with_ways
from samepaper.shapes import name_given


def is_once_function(function):
    names = [name for block in function[2] for name in names_of(block)]
    return len(set(names)) == len(names)


def is_once(middle):
    """Whether in each function of a right middle each name is given in just one place."""
    return all(is_once_function(function) for function in middle)


class Once:
    """A function made anew: a name that is given in several places has a new name at each of them.

    A block takes such names that live at its begin as further params; all other names stay.
    """

    def __init__(self, function, number):
        self.function = function
        self.number = number
        self.blocks = function[2]
        self.matches = []
        self.reached = come_to(function)
        self.numbers = {block: at for at, block in enumerate(self.reached)}
        self.lives = Lives(function)
        self.times = {}
        for block in self.reached:
            for name in names_of(self.blocks[block]):
                self.times[name] = self.times.get(name, 0) + 1
        self.fresh = NewNames(self.times)

    def is_given_again(self, name):
        return self.times[name] > 1

    def give(self, name, puts):
        """The name that is given for one from here on, which is put for it."""
        if self.is_given_again(name):
            puts[name] = self.fresh.new_name(name[0])
        return puts.get(name, name)

    def taken_at(self, block):
        """The names that a block takes as further params."""
        return tuple([name for name in self.lives.living_at(block) if self.is_given_again(name)])

    def block_made(self, block):
        """A block made anew; its match is noted."""
        params, rows, end = self.blocks[block]
        puts = {}
        params = tuple([self.give(name, puts) for name in params + self.taken_at(block)])
        holds = [(puts.get(name, name), (0, name)) for name in self.lives.wanted_at(block)]
        made = []
        for row in rows:
            read = put_row(row, puts)
            name = name_given(row)
            made.append(read if name is None else (self.give(name, puts),) + read[1:])
        ways = [(self.numbers[target], args + self.taken_at(target)) for target, args in ways_of(end)]
        end = put_end(with_ways(end, ways), puts)
        self.matches.append((((self.number, block),), (), tuple(holds), ()))
        return (params, tuple(made), end)

    def function_made(self):
        return self.function[:2] + (tuple([self.block_made(block) for block in self.reached]),)

    def matches_made(self, made):
        return tuple(self.matches)


def once(middle):
    """Of a right and small middle an outcome that is once, too, and its paper."""
    return made_by([Once(function, number) for number, function in enumerate(middle)])


def term_of(operand):
    """An operand as a term of the place's first frame."""
    return (0, operand) if isinstance(operand, str) else operand


def term_of_row(row):
    """What a row reckons, as a term."""
    return (row[1],) + tuple([term_of(operand) for operand in row[2]])


def rows_in_order(function):
    """The rows that give names, in blocks that are come to, each behind all those whose names it reads."""
    rows = [row for block in in_order(function) for row in function[2][block][1]]
    return [row for row in rows if name_given(row) is not None]


def stands_at(middle, number):
    """For each block of a function that is once its rows' equations that hold there; None where it is not come to."""
    function = middle[number]
    given = Given(function)
    rows = rows_in_order(function)
    stands = []
    for block in range(len(function[2])):
        if block in given.begins:
            names = {name: True for name in given.names_at(block)}
            stands.append(tuple([((0, row[0]), term_of_row(row)) for row in rows if row[0] in names]))
        else:
            stands.append(None)
    return stands
