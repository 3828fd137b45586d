"""Calls put in place: of functions that call nobody, whose blocks stand for the call."""

from samepaper.given import come_to, names_of
from samepaper.lives import Lives
from samepaper.remaking import NewNames, laid_by, made_by, put_end, put_operands, put_row
from samepaper.remaking import ways_of, with_reached, with_ways
from samepaper.shapes import name_given
from samepaper.sizes import is_small_function


def calls_nobody(function):
    return all(end[0] != "call" for params, rows, end in function[2])


def all_names(function):
    """The names that a function gives, each once."""
    return sorted({name for block in function[2] for name in names_of(block)})


class Placing:
    """A function and those of its calls that are put in place, in puts: what is put for the called function's names.

    The blocks of the outcome are told by spots: (block,) for one of its own, (call, inner) for one of the function that
    the end of the block call calls.
    """

    def __init__(self, middle, number):
        self.middle = middle
        self.number = number
        self.function = middle[number]
        self.blocks = self.function[2]
        self.reached = come_to(self.function)
        self.lives = Lives(self.function)
        self.fresh = NewNames(all_names(self.function))
        self.puts = {}
        # What is not small is left as it is: it may be too large by all else that is asked of a middle.
        if is_small_function(self.function):
            for block in self.reached:
                self.try_call(block)

    def try_call(self, block):
        """Puts the call of a block in place, where it is one of a function that calls nobody and all stays small."""
        end = self.blocks[block][2]
        if end[0] == "call" and calls_nobody(self.middle[end[1]]):
            self.puts[block] = {name: self.fresh.new_name(name[0]) for name in all_names(self.middle[end[1]])}
            if not is_small_function(self.function_made()):
                del self.puts[block]

    def callee_of(self, call):
        """The number of the function that a block's end calls."""
        return self.blocks[call][2][1]

    def all_spots(self):
        """The spots of all blocks that may be come to."""
        inner = [(call, block) for call in self.puts for block in come_to(self.middle[self.callee_of(call)])]
        return [(block,) for block in self.reached] + inner

    def block_made(self, spot, numbers):
        """The block of a spot, numbers a dict from spots to their numbers."""
        if len(spot) == 2:
            return self.inner_made(spot[0], spot[1], numbers)
        params, rows, end = self.blocks[spot[0]]
        if spot[0] in self.puts:
            return (params, rows + (("tick",),), ("go", numbers[(spot[0], 0)], end[2]))
        return (params, rows, with_ways(end, [(numbers[(target,)], args) for target, args in ways_of(end)]))

    def inner_made(self, call, block, numbers):
        """A block of the function that is called, by names of its own."""
        puts = self.puts[call]
        params, rows, end = self.middle[self.callee_of(call)][2][block]
        made = []
        for row in rows:
            read = put_row(row, puts)
            made.append(read if name_given(row) is None else (puts[row[0]],) + read[1:])
        if end[0] == "give":
            behind, more = self.blocks[call][2][3:]
            end = ("go", numbers[(behind,)], put_operands(end[1], puts) + more)
        else:
            ways = [(numbers[(call, target)], args) for target, args in ways_of(end)]
            end = put_end(with_ways(end, ways), puts)
        return (put_operands(params, puts), tuple(made), end)

    def whole_made(self):
        """The function with the blocks of all spots."""
        spots = self.all_spots()
        numbers = {spot: at for at, spot in enumerate(spots)}
        return self.function[:2] + (tuple([self.block_made(spot, numbers) for spot in spots]),)

    def function_made(self):
        whole = self.whole_made()
        # Behind a call of a function that never gives nothing is come to any more.
        return with_reached(whole, come_to(whole))

    def own_match(self, block, wanted):
        return (((self.number, block),), (), tuple([(name, (0, name)) for name in wanted]), ())

    def inner_match(self, call, block, wanted):
        """The match of a block within a call, wanted the names that are wanted there."""
        word, callee, args, behind, more = self.blocks[call][2]
        later = self.blocks[behind][0][len(self.middle[callee][1]):]
        stands, leaders = laid_by(later, more, self.lives.living_at(behind))
        awaited = self.lives.wanted_at(behind)
        inner = {new: name for name, new in self.puts[call].items()}
        holds = [(name, (1, inner[name]) if name in inner else (0, leaders[name])) for name in wanted]
        stands = [stand for stand in stands if stand[0][1] in awaited]
        return (((self.number, behind), (callee, block)), tuple(stands), tuple(holds), ())

    def matches_made(self, made):
        spots = self.all_spots()
        lives = Lives(made)
        matches = []
        for at, place in enumerate(come_to(self.whole_made())):
            wanted = lives.wanted_at(at)
            spot = spots[place]
            matches.append(self.own_match(spot[0], wanted) if len(spot) == 1 else
                           self.inner_match(spot[0], spot[1], wanted))
        return tuple(matches)


def in_place(middle):
    """Of a right middle one with calls put in place, where it is small as small, and its paper."""
    return made_by([Placing(middle, number) for number in range(len(middle))])
