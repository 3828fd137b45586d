"""Right trees laid as middles, and their values laid flat."""

from samepaper.kinds import is_ended, kind_of_expr, kind_of_path, parts_of
from samepaper.numbers import LONGEST, kinds_of
from samepaper.shapes import copy_of, name_given
from samepaper.sizes import SMALL_ROWS
from samepaper.trees import found, within


def flat(tree, kind, value):
    """The tuple of the values of a value's parts."""
    if kind in ("num", "row"):
        return (value,)
    parts = []
    for (name, inner), part in zip(found(tree[0], kind)[1], value):
        parts.extend(flat(tree, inner, part))
    return tuple(parts)


def unflat(tree, kind, values):
    """The value of this kind that is laid flat so."""
    if kind in ("num", "row"):
        return values[0]
    fields = []
    at = 0
    for name, inner in found(tree[0], kind)[1]:
        many = len(parts_of(tree, inner))
        fields.append(unflat(tree, inner, values[at:at + many]))
        at += many
    return tuple(fields)


class Laying:
    """The blocks of one function of a tree, laid one behind the other.

    A variable has a name for each of its parts, and keeps it; all else that is reckoned has a name of its own.
    """

    def __init__(self, tree, function):
        self.tree = tree
        self.numbers = {told[0]: number for number, told in enumerate(tree[1])}
        self.many = {"n": 0, "r": 0}
        self.known = {}
        self.parts = {}
        self.variables = {}
        self.params = []
        self.rows = []
        self.ends = []
        params = []
        for name, kind in function[2]:
            params.extend(self.make_variable(name, kind))
        self.block = self.make_block(tuple(params))

    def make_name(self, kind):
        number = self.many[kind]
        self.many[kind] += 1
        return f"{kind}{number}"

    def make_names(self, kind):
        """New names for the parts of a source's kind."""
        return [self.make_name(part) for part in parts_of(self.tree, kind)]

    def make_variable(self, name, kind):
        self.known[name] = kind
        self.parts[name] = self.make_names(kind)
        for part in self.parts[name]:
            self.variables[part] = True
        return self.parts[name]

    def make_block(self, params):
        """The number of a new block, to which nothing leads yet."""
        self.params.append(params)
        self.rows.append([])
        self.ends.append(None)
        return len(self.ends) - 1

    def lay_end(self, end):
        self.ends[self.block] = end

    def lay_row(self, row):
        # Operands are never too many: no row but a make has more than three, and a line has no more words than twelve.
        if len(self.rows[self.block]) == SMALL_ROWS:
            behind = self.make_block(())
            self.lay_end(("go", behind, ()))
            self.block = behind
        self.rows[self.block].append(row)

    def lay_operation(self, op, operands):
        """Lays a row of an operation; its name is told."""
        name = self.make_name(kinds_of(op)[0])
        self.lay_row((name, op, tuple(operands)))
        return name

    def lay_need(self, word, op, one, other):
        """Lays the fault of this word where an operation of two numbers tells 0."""
        self.lay_row(("need", word, self.lay_operation(op, [one, other])))

    def names_of(self, path):
        """The names of the parts of what a path tells."""
        first = 0
        for at in range(1, len(path)):
            fields = found(self.tree[0], kind_of_path(self.tree, self.known, path[:at]))[1]
            for name, kind in fields[:[name for name, kind in fields].index(path[at])]:
                first += len(parts_of(self.tree, kind))
        many = len(parts_of(self.tree, kind_of_path(self.tree, self.known, path)))
        return self.parts[path[0]][first:first + many]

    def lay_expr(self, e):
        """Lays what reckons an expression; the list of its parts' operands is told.

        A variable's part is told by its own name: an expression changes none.
        """
        if isinstance(e, int):
            return [e]
        if e[0] == "of":
            return self.names_of(e[1])
        if e[0] in ("and", "or"):
            return [self.lay_truth(e)]
        operands = []
        for inner in within(e):
            operands.extend(self.lay_expr(inner))
        if e[0] == "call":
            return self.lay_call(e[1], operands)
        if e[0] == "new":
            return operands
        if e[0] == "not":
            return [self.lay_operation("same", operands + [0])]
        self.lay_faults(e[0], operands)
        return [self.lay_operation(e[0], operands)]

    def lay_truth(self, e):
        """Lays an and or an or: its second is reckoned on one way of its first alone."""
        first = self.lay_expr(e[1])[0]
        truth = self.make_name("n")
        second, behind = self.make_block(()), self.make_block((truth,))
        if e[0] == "and":
            self.lay_end(("fork", first, second, (), behind, (0,)))
        else:
            self.lay_end(("fork", first, behind, (1,), second, ()))
        self.block = second
        nought = self.lay_operation("same", [self.lay_expr(e[2])[0], 0])
        self.lay_end(("go", behind, (self.lay_operation("same", [nought, 0]),)))
        self.block = behind
        return truth

    def lay_call(self, name, operands):
        results = self.make_names(found(self.tree[1], name)[1])
        behind = self.make_block(tuple(results))
        self.lay_end(("call", self.numbers[name], tuple(operands), behind, ()))
        self.block = behind
        return results

    def lay_faults(self, op, operands):
        if op in ("div", "rest"):
            self.lay_row(("need", "nought", operands[1]))
        elif op in ("at", "put"):
            row, place = operands[:2]
            self.lay_need("range", "less", -1, place)
            self.lay_need("range", "less", place, self.lay_operation("size", [row]))
        elif op == "many":
            self.lay_need("long", "less", -1, operands[0])
            self.lay_need("long", "less", operands[0], LONGEST + 1)

    def is_just_reckoned(self, operand):
        """Whether an operand is the name of the last row, and of no variable's part."""
        rows = self.rows[self.block]
        return len(rows) > 0 and name_given(rows[-1]) == operand and operand not in self.variables

    def lay_into(self, names, operands):
        """Lays operands into a variable's parts, as if all at once."""
        if len(names) == 1 and self.is_just_reckoned(operands[0]):
            # Nothing but this variable will read what was just reckoned.
            self.rows[self.block][-1] = (names[0],) + self.rows[self.block][-1][1:]
            return
        read = []
        for at, operand in enumerate(operands):
            # A part that is laid ahead of where it is read is read first.
            read.append(self.lay_operation(copy_of(operand), [operand]) if operand in names[:at] else operand)
        for name, operand in zip(names, read):
            if name != operand:
                self.lay_row((name, copy_of(name), (operand,)))

    def lay_body(self, body):
        for statement in body:
            self.lay_statement(statement)

    def lay_statement(self, statement):
        word = statement[0]
        if word == "let":
            operands = self.lay_expr(statement[2])
            kind = kind_of_expr(self.tree, self.known, statement[2])
            self.lay_into(self.make_variable(statement[1], kind), operands)
        elif word == "set":
            operands = self.lay_expr(statement[2])
            self.lay_into(self.names_of(statement[1]), operands)
        elif word == "put":
            path = statement[1]
            self.lay_statement(("set", path, ("put", ("of", path)) + statement[2:]))
        elif word == "give":
            self.lay_end(("give", tuple(self.lay_expr(statement[1]))))
        elif word == "if":
            self.lay_if(statement)
        else:
            self.lay_while(statement)

    def lay_if(self, statement):
        condition = self.lay_expr(statement[1])[0]
        first, second = self.make_block(()), self.make_block(())
        self.lay_end(("fork", condition, first, (), second, ()))
        if not statement[3]:
            self.lay_branch(first, statement[2], second)
            self.block = second
            return
        # Where both bodies are ended, nothing comes behind the if.
        ended = is_ended(statement[2]) and is_ended(statement[3])
        behind = None if ended else self.make_block(())
        self.lay_branch(first, statement[2], behind)
        self.lay_branch(second, statement[3], behind)
        self.block = behind

    def lay_branch(self, block, body, behind):
        """Lays a body from a block on; where it is not ended, it goes on behind."""
        self.block = block
        self.lay_body(body)
        if not is_ended(body):
            self.lay_end(("go", behind, ()))

    def lay_while(self, statement):
        head = self.make_block(())
        self.lay_end(("go", head, ()))
        self.block = head
        condition = self.lay_expr(statement[1])[0]
        body, behind = self.make_block(()), self.make_block(())
        self.lay_end(("fork", condition, body, (), behind, ()))
        self.block = body
        self.lay_row(("tick",))
        self.lay_branch(self.block, statement[2], head)
        self.block = behind

    def blocks_laid(self):
        return tuple([(params, tuple(rows), end) for params, rows, end in zip(self.params, self.rows, self.ends)])


def laid_function(tree, function):
    laying = Laying(tree, function)
    laying.lay_body(function[3])
    return (function[0], parts_of(tree, function[1]), laying.blocks_laid())


def laid(tree):
    """A right tree as a middle, right and small."""
    return tuple([laid_function(tree, function) for function in tree[1]])
