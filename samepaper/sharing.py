"""Shared middles: a row that reckons again what another one surely reckoned ahead of it is gone."""

from samepaper.given import Given
from samepaper.lives import Lives
from samepaper.once import rows_in_order, term_of, term_of_row
from samepaper.remaking import in_order, made_by, put_end, put_operands, put_row, ways_of, with_ways
from samepaper.shapes import name_given
from samepaper.sizes import is_slight, is_small_function
from samepaper.terms import kind_of_term


class Sharing:
    """A function that is once. Of rows alike the first one leads: its name is put for the others', which are gone."""

    def __init__(self, function, number):
        self.function = function
        self.number = number
        self.given = Given(function)
        self.numbers = {block: at for at, block in enumerate(self.given.reached)}
        self.puts = {}
        self.gone = {}
        self.find_all()
        # Names that live longer may be too many together, but never in a slight function.
        if not is_slight(function) and not is_small_function(self.function_made()):
            self.puts = {}
            self.gone = {}
        self.rows = [row for row in rows_in_order(function) if row[0] in self.gone or row[0] in self.puts]

    def find_all(self):
        """Finds the rows that are gone, and for each that leads, in gone, the names of those."""
        leaders = {}
        for block in in_order(self.function):
            ahead = {name: True for name in self.given.names_at(block)}
            for row in self.function[2][block][1]:
                if name_given(row) is not None:
                    self.find_leader(row, ahead, leaders.setdefault(self.key_of(row), []))
                    ahead[row[0]] = True

    def key_of(self, row):
        return (row[1], put_operands(row[2], self.puts))

    def find_leader(self, row, ahead, leaders):
        """Puts one of these names that is given ahead for a row's; where there is none, the row may lead itself."""
        for name in leaders:
            if name in ahead:
                self.puts[row[0]] = name
                self.gone.setdefault(name, []).append(row[0])
                return
        leaders.append(row[0])

    def block_made(self, block):
        params, rows, end = self.function[2][block]
        rows = [put_row(row, self.puts) for row in rows if name_given(row) not in self.puts]
        ways = [(self.numbers[target], args) for target, args in ways_of(end)]
        return (params, tuple(rows), put_end(with_ways(end, ways), self.puts))

    def function_made(self):
        return self.function[:2] + (tuple([self.block_made(block) for block in self.given.reached]),)

    def rows_given(self, block):
        """The rows that lead or are gone and whose names are given for sure at a block's begin."""
        given = {name: True for name in self.given.names_at(block)}
        return [row for row in self.rows if row[0] in given]

    def matches_made(self, made):
        before = Lives(self.function)
        after = Lives(made)
        tellings = [Telling(self, block, before.wanted_at(block)) for block in self.given.reached]
        # Either way of telling bears itself out from block to block; they do not bear out one another.
        by_wanted = all(telling.fits for telling in tellings)
        matches = []
        for at, block in enumerate(self.given.reached):
            left = after.wanted_at(at)
            told = tellings[at].told_by_wanted(left) if by_wanted else self.told_by_given(block, left)
            matches.append((((self.number, block),),) + told + ((),))
        return tuple(matches)

    def told_by_given(self, block, left):
        """The stands and holds of a block, told by all names that are given there: rows alike are one form so."""
        stands = [((0, row[0]), term_of_row(row)) for row in self.rows_given(block)]
        return (tuple(stands), tuple([(name, (0, name)) for name in left]))


class Telling:
    """What is told at a block of rows that lead: a term for each of their names, and stands.

    Told is by names that the handed function wants there, so that earlier papers hold them. This fits where no term is
    too large.
    """

    def __init__(self, sharing, block, wanted):
        self.puts = sharing.puts
        self.gone = sharing.gone
        self.wanted = {name: True for name in wanted}
        self.terms = {}
        self.stands = []
        self.fits = True
        for row in sharing.rows_given(block):
            if row[0] in self.gone:
                self.tell_leader(row)

    def term_for(self, operand):
        """The term of an operand by names that are wanted, or None where it has none."""
        leader = self.puts.get(operand, operand)
        if leader in self.gone:
            return self.terms.get(leader)
        return term_of(operand) if operand in self.wanted or isinstance(operand, int) else None

    def term_by_wanted(self, row):
        """What a row reckons as a term by names that are wanted, or None where it has none.

        A row that is gone and still ahead wants its operands: where they are not wanted, none is ahead.
        """
        operands = [self.term_for(operand) for operand in row[2]]
        if None in operands:
            return None
        term = (row[1],) + tuple(operands)
        if kind_of_term(term) is None:
            self.fits = False
            return None
        return term

    def tell_leader(self, row):
        """Tells of a row that leads, and of those for which its name is put."""
        leader = row[0]
        term = self.term_by_wanted(row)
        names = [name for name in [leader] + self.gone[leader] if name in self.wanted]
        if names:
            self.terms[leader] = (0, names[0])
            if term is not None:
                self.stands.append(((0, names[0]), term))
            self.stands.extend([((0, name), (0, names[0])) for name in names[1:]])
        elif term is not None:
            self.terms[leader] = term

    def told_by_wanted(self, left):
        """The stands and holds of the block, left the names that are wanted there in the outcome."""
        holds = [(name, self.terms.get(name, (0, name))) for name in left]
        return (tuple(self.stands), tuple(holds))


def shared(middle):
    """Of a small once middle a shared one, and its paper."""
    return made_by([Sharing(function, number) for number, function in enumerate(middle)])
