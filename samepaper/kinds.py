"""Kinds: which trees are right, and the kinds of what they have."""

from samepaper.errors import NoKind
from samepaper.numbers import kinds_of
from samepaper.showing import function_lines
from samepaper.trees import expr_words, found, head_words, within

MOST_PARTS = 4

SOURCE_KINDS = {"n": "num", "r": "row"}


def parts_of(tree, kind):
    """A kind's parts, as a text of n and r."""
    if kind == "num":
        return "n"
    if kind == "row":
        return "r"
    fields = found(tree[0], kind)[1]
    return "".join([parts_of(tree, inner) for name, inner in fields])


def kind_of_path(tree, known, path):
    """The kind of what a path tells, or None where there is no such thing."""
    kind = known.get(path[0])
    for name in path[1:]:
        record = found(tree[0], kind)
        field = None if record is None else found(record[1], name)
        if field is None:
            return None
        kind = field[1]
    return kind


def kind_of_expr(tree, known, e):
    """The kind of an expression, or None where its path, function or record is none."""
    if isinstance(e, int):
        return "num"
    word = e[0]
    if word == "of":
        return kind_of_path(tree, known, e[1])
    if word == "call":
        function = found(tree[1], e[1])
        return None if function is None else function[1]
    if word == "new":
        record = found(tree[0], e[1])
        return None if record is None else record[0]
    if word in ("and", "or", "not"):
        return "num"
    return SOURCE_KINDS[kinds_of(word)[0]]


def kinds_due(tree, e):
    """The kinds due of what an expression has within, whose names there are."""
    if isinstance(e, int) or e[0] == "of":
        return []
    word = e[0]
    if word == "call":
        return [kind for name, kind in found(tree[1], e[1])[2]]
    if word == "new":
        return [kind for name, kind in found(tree[0], e[1])[1]]
    if word in ("and", "or", "not", "make"):
        return ["num"] * (len(e) - 1)
    return [SOURCE_KINDS[kind] for kind in kinds_of(word)[1]]


def ends_body(statement):
    """Whether a statement ends the body in which it stands."""
    if statement[0] == "if":
        return is_ended(statement[2]) and is_ended(statement[3])
    return statement[0] == "give"


def is_ended(body):
    return len(body) > 0 and ends_body(body[-1])


class Asking:
    """One function's lines behind its first one, asked one after the other."""

    def __init__(self, tree, function, line):
        self.tree = tree
        self.gives = function[1]
        self.names = {name: True for name, kind in function[2]}
        self.line = line

    def ask_body(self, body, known):
        """Asks a body's lines; known, the names that live there, takes in its lets."""
        ended = False
        for statement in body:
            if ended:
                raise NoKind(self.line, 0)
            self.ask_statement(statement, known)
            ended = ends_body(statement)

    def ask_statement(self, statement, known):
        word = statement[0]
        if word == "let":
            self.ask_let(statement, known)
        elif word == "set":
            self.ask_set(statement, known)
        elif word == "put":
            self.ask_put(statement, known)
        elif word == "give":
            self.ask_expr(statement[1], self.gives, 1, known)
        else:
            self.ask_turn(statement, known)
        self.line += 1

    def ask_let(self, statement, known):
        name, e = statement[1:]
        if name in self.names:
            raise NoKind(self.line, 1)
        self.ask_expr(e, None, 2, known)
        self.names[name] = True
        known[name] = kind_of_expr(self.tree, known, e)

    def ask_set(self, statement, known):
        kind = kind_of_path(self.tree, known, statement[1])
        if kind is None:
            raise NoKind(self.line, 1)
        self.ask_expr(statement[2], kind, 2, known)

    def ask_put(self, statement, known):
        if kind_of_path(self.tree, known, statement[1]) != "row":
            raise NoKind(self.line, 1)
        self.ask_expr(statement[2], "num", 2, known)
        self.ask_expr(statement[3], "num", 2 + len(expr_words(statement[2])), known)

    def ask_turn(self, statement, known):
        """Asks an if or a while up to its end, on whose line it stops."""
        self.ask_expr(statement[1], "num", 1, known)
        for body in statement[2:]:
            # The line ahead of a body is the statement's own or its else; without an else there is none.
            if body:
                self.line += 1
                self.ask_body(body, dict(known))

    def ask_expr(self, e, due, word, known):
        """Asks an expression that begins at this word; due is None where any kind will do."""
        kind = kind_of_expr(self.tree, known, e)
        head = head_words(e)
        if kind is None:
            # A path is the one word of its expression; a function's or record's name is the second.
            raise NoKind(self.line, word if len(head) == 1 else word + 1)
        if due is not None and kind != due:
            raise NoKind(self.line, word)
        dues = kinds_due(self.tree, e)
        if len(dues) != len(within(e)):
            raise NoKind(self.line, word + 2)
        word += len(head)
        for inner, inner_due in zip(within(e), dues):
            self.ask_expr(inner, inner_due, word, known)
            word += len(expr_words(inner))


def ask_name(rows, at, line, word):
    """Refuses the name of the row at this place where one ahead of it has it."""
    if found(rows[:at], rows[at][0]) is not None:
        raise NoKind(line, word)


def ask_kind(records, kind, line, word):
    if kind not in ("num", "row") and found(records, kind) is None:
        raise NoKind(line, word)


def ask_record(tree, line):
    """Asks a record's line; a record's line has the record's own number."""
    records = tree[0]
    fields = records[line][1]
    ask_name(records, line, line, 1)
    parts = 0
    for at, field in enumerate(fields):
        ask_name(fields, at, line, 2 + 2 * at)
        ask_kind(records[:line], field[1], line, 3 + 2 * at)
        parts += len(parts_of(tree, field[1]))
        if parts > MOST_PARTS:
            raise NoKind(line, 3 + 2 * at)


def ask_head(tree, number, line):
    """Asks the first line of the function of this number."""
    records, functions = tree
    ask_name(functions, number, line, 1)
    ask_kind(records, functions[number][1], line, 2)
    parameters = functions[number][2]
    for at, parameter in enumerate(parameters):
        ask_name(parameters, at, line, 3 + 2 * at)
        ask_kind(records, parameter[1], line, 4 + 2 * at)


def ask_function(tree, function, line):
    """Asks a function's lines behind its first one, which is this one."""
    asking = Asking(tree, function, line + 1)
    asking.ask_body(function[3], {name: kind for name, kind in function[2]})
    if not is_ended(function[3]):
        raise NoKind(asking.line, 0)


def first_lines(tree):
    """The numbers of the functions' first lines."""
    lines = []
    line = len(tree[0])
    for function in tree[1]:
        lines.append(line)
        line += len(function_lines(function))
    return lines


def kinded(tree):
    """True for a right tree, else NoKind."""
    for line in range(len(tree[0])):
        ask_record(tree, line)
    lines = first_lines(tree)
    for number, line in enumerate(lines):
        ask_head(tree, number, line)
    for function, line in zip(tree[1], lines):
        ask_function(tree, function, line)
    return True
