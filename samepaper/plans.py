"""A source's functions as flat lists of steps, which a runner can go through without calling itself.

A step is (word, told). Expressions leave their value on top of a stack, other steps take it from there.
"""

from samepaper.kinds import kind_of_expr, kind_of_path
from samepaper.trees import found, within


class Plan:
    """The steps of one function, laid one behind the other."""

    def __init__(self, tree, function):
        self.tree = tree
        # Names are unlike within a function, so one dict serves all its bodies.
        self.known = {name: kind for name, kind in function[2]}
        self.steps = []

    def lay(self, word, told):
        self.steps.append((word, told))

    def hold_open(self):
        """Keeps a place for a step that leads to where no step stands yet."""
        self.steps.append(None)
        return len(self.steps) - 1

    def close(self, place, word):
        """Lays a step at a place kept open: it leads to the next step to be laid."""
        self.steps[place] = (word, len(self.steps))

    def places_of(self, path):
        """A path as a variable's name and the places of the fields."""
        places = []
        for at in range(1, len(path)):
            record = found(self.tree[0], kind_of_path(self.tree, self.known, path[:at]))
            names = [name for name, kind in record[1]]
            places.append(names.index(path[at]))
        return (path[0], tuple(places))

    def lay_expr(self, e):
        if isinstance(e, int):
            self.lay("number", e)
        elif e[0] == "of":
            self.lay("of", self.places_of(e[1]))
        elif e[0] in ("and", "or"):
            self.lay_expr(e[1])
            place = self.hold_open()
            self.lay_expr(e[2])
            self.lay("truth", None)
            self.close(place, e[0])
        else:
            self.lay_done(e)

    def lay_done(self, e):
        """Lays an expression that reckons all that it has within, then itself."""
        for inner in within(e):
            self.lay_expr(inner)
        many = len(within(e))
        if e[0] == "call":
            self.lay("call", (e[1], many))
        elif e[0] == "new":
            self.lay("new", many)
        elif e[0] == "not":
            self.lay("not", None)
        else:
            self.lay("done", (e[0], many))

    def lay_body(self, body):
        for statement in body:
            self.lay_statement(statement)

    def lay_statement(self, statement):
        word = statement[0]
        if word == "let":
            self.lay_expr(statement[2])
            self.known[statement[1]] = kind_of_expr(self.tree, self.known, statement[2])
            self.lay("set", (statement[1], ()))
        elif word == "set":
            self.lay_expr(statement[2])
            self.lay("set", self.places_of(statement[1]))
        elif word == "put":
            path = statement[1]
            self.lay_statement(("set", path, ("put", ("of", path)) + statement[2:]))
        elif word == "give":
            self.lay_expr(statement[1])
            self.lay("give", None)
        elif word == "if":
            self.lay_if(statement)
        else:
            self.lay_while(statement)

    def lay_if(self, statement):
        self.lay_expr(statement[1])
        around_first = self.hold_open()
        self.lay_body(statement[2])
        around_second = self.hold_open()
        self.close(around_first, "unless")
        self.lay_body(statement[3])
        self.close(around_second, "go")

    def lay_while(self, statement):
        begin = len(self.steps)
        self.lay_expr(statement[1])
        out = self.hold_open()
        self.lay("tick", None)
        self.lay_body(statement[2])
        self.lay("go", begin)
        self.close(out, "unless")


def steps_of(tree, function):
    """The steps of one of a right tree's functions."""
    plan = Plan(tree, function)
    plan.lay_body(function[3])
    return plan.steps
