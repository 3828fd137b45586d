"""Moved-out middles: rows of a loop that reckon the same each time stand ahead of it."""

from samepaper.given import Given, names_of
from samepaper.lives import Lives
from samepaper.loops import loops_of
from samepaper.once import rows_in_order
from samepaper.remaking import NewNames, made_by, ways_of, with_ways
from samepaper.shapes import name_given, row_operands
from samepaper.sizes import SMALL_OPERANDS, SMALL_ROWS, is_slight, is_small_function
from samepaper.terms import kind_of_term


def term_with(row, terms):
    """What a row reckons, as a term, terms a dict with those of the names that have one; None where it has none."""
    operands = [operand if isinstance(operand, int) else terms.get(operand) for operand in row[2]]
    if None in operands:
        return None
    term = (row[1],) + tuple(operands)
    return None if kind_of_term(term) is None else term


def in_portions(rows):
    """Rows, at least one, in portions that a small block may have."""
    portions = [[]]
    operands = 0
    for row in rows:
        operands += len(row_operands(row))
        if len(portions[-1]) == SMALL_ROWS or operands > SMALL_OPERANDS:
            portions.append([])
            operands = len(row_operands(row))
        portions[-1].append(row)
    return portions


class Moving:
    """A function that is once, and which of its rows stand ahead of a loop.

    In ahead_of is, for each such row's name, the head of the loop.
    """

    def __init__(self, function, number):
        self.function = function
        self.number = number
        self.blocks = function[2]
        self.given = Given(function)
        self.rows = rows_in_order(function)
        self.homes = {name: block for block in self.given.reached for name in names_of(self.blocks[block])}
        self.loops = loops_of(function)
        self.ahead_of = {}
        self.fresh = NewNames([name for block in self.blocks for name in names_of(block)])
        self.copies = {head: [self.fresh.new_name(name[0]) for name in self.blocks[head][0]] for head in self.loops}
        # Inner loops first: what stands ahead of them may stand ahead of the outer ones, too.
        for head in sorted(self.loops, key=lambda head: len(self.loops[head])):
            self.move_out(head)

    def is_within(self, operand, head):
        """Whether an operand is a name that is given in the loop of this head."""
        if isinstance(operand, int):
            return False
        if operand in self.ahead_of:
            block = self.ahead_of[operand]
            return block != head and block in self.loops[head]
        return self.homes[operand] in self.loops[head]

    def move_out(self, head):
        """Moves rows ahead of a loop; none where the outcome would not be small."""
        kept = {name: self.ahead_of[name] for name in self.ahead_of}
        terms = {name: (0, name) for name in self.given.names_at(head)}
        for row in self.rows:
            if self.is_within(row[0], head) and not any(self.is_within(operand, head) for operand in row[2]):
                term = term_with(row, terms)
                if term is not None:
                    terms[row[0]] = term
                    self.ahead_of[row[0]] = head
        # A slight function stays small: it has few names in all.
        if not is_slight(self.function) and not is_small_function(self.function_made()):
            self.ahead_of = kept

    def portions_of(self, head):
        """The rows that stand ahead of a loop, in portions; none where there is no row."""
        rows = [row for row in self.rows if self.ahead_of.get(row[0]) == head]
        return in_portions(rows) if rows else []

    def heads(self):
        """The heads of loops ahead of which rows stand, each once for each new block there, in their order."""
        return [head for head in self.loops for portion in self.portions_of(head)]

    def block_made(self, block, fronts):
        params, rows, end = self.blocks[block]
        if block not in self.given.begins:
            return self.blocks[block]
        rows = [row for row in rows if name_given(row) not in self.ahead_of]
        ways = []
        for target, args in ways_of(end):
            is_entry = target in fronts and block not in self.loops[target]
            ways.append((fronts[target] if is_entry else target, args))
        return (params, tuple(rows), with_ways(end, ways))

    def blocks_ahead(self, head, first):
        """The new blocks ahead of a loop, the first one of this number."""
        portions = self.portions_of(head)
        copies = tuple(self.copies[head])
        blocks = []
        for at, rows in enumerate(portions):
            is_last = at == len(portions) - 1
            end = ("go", head, copies) if is_last else ("go", first + at + 1, ())
            blocks.append((copies if at == 0 else (), tuple(rows), end))
        return blocks

    def function_made(self):
        new = []
        fronts = {}
        for head in self.loops:
            first = len(self.blocks) + len(new)
            blocks = self.blocks_ahead(head, first)
            if blocks:
                fronts[head] = first
                new.extend(blocks)
        old = [self.block_made(block, fronts) for block in range(len(self.blocks))]
        return self.function[:2] + (tuple(old + new),)

    def match_made(self, block, before, after):
        """A match with a block, of the names that it wants, for what the outcome wants there.

        Told is by names that the handed function wants, so that earlier papers hold them: where the outcome still wants
        a name that stands ahead of a loop, the handed function wants it, too, or all that it will reckon it of.
        """
        wanted = {name: (0, name) for name in before.wanted_at(block)}
        terms = {name: wanted[name] for name in wanted}
        stands = []
        for row in [row for row in self.rows if row[0] in self.ahead_of]:
            term = term_with(row, terms)
            if term is not None and row[0] in wanted:
                stands.append(((0, row[0]), term))
            elif term is not None:
                terms[row[0]] = term
        for name, copy in zip(self.blocks[block][0], self.copies.get(block, [])):
            terms[copy] = (0, name)
        return (((self.number, block),), tuple(stands), tuple([(name, terms[name]) for name in after]), ())

    def matches_made(self, made):
        before = Lives(self.function)
        after = Lives(made)
        places = [block if block in self.given.begins else None for block in range(len(self.blocks))] + self.heads()
        return tuple([None if place is None else self.match_made(place, before, after.wanted_at(at))
                      for at, place in enumerate(places)])


def moved_out(middle):
    """Of a small once middle a moved-out one, and its paper."""
    return made_by([Moving(function, number) for number, function in enumerate(middle)])
