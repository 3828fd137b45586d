"""What makers share: rows and ends made anew, new names, and blocks in an order that follows their ways."""

from samepaper.shapes import is_need, is_tick, targets_of


class NewNames:
    """Names that are not among those taken so far."""

    def __init__(self, names):
        self.taken = {name: True for name in names}
        self.many = {"n": 0, "r": 0}

    def new_name(self, kind):
        """A name of this kind that is not taken yet; from now on it is."""
        while f"{kind}{self.many[kind]}" in self.taken:
            self.many[kind] += 1
        name = f"{kind}{self.many[kind]}"
        self.taken[name] = True
        return name


def put_operands(operands, puts):
    """Operands with others put for some names, puts a dict from a name to an operand."""
    return tuple([puts.get(operand, operand) for operand in operands])


def put_row(row, puts):
    """A row that reads other operands; the name that it gives stays."""
    if is_tick(row):
        return row
    if is_need(row):
        return row[:2] + put_operands(row[2:], puts)
    return row[:2] + (put_operands(row[2], puts),)


def ways_of(end):
    """The ways of an end in its own function: pairs of a block and what is laid into its params, results apart."""
    word = end[0]
    if word == "go":
        return [end[1:]]
    if word == "fork":
        return [end[2:4], end[4:]]
    if word == "call":
        return [end[3:]]
    return []


def with_ways(end, ways):
    """An end with other blocks and args in its ways."""
    word = end[0]
    if word == "go":
        return end[:1] + ways[0]
    if word == "fork":
        return end[:2] + ways[0] + ways[1]
    if word == "call":
        return end[:3] + ways[0]
    return end


def own_operands(end):
    """The operands of an end that are not laid into its ways' params in its own function."""
    word = end[0]
    if word == "fork":
        return end[1:2]
    if word == "give":
        return end[1]
    if word == "call":
        return end[2]
    return ()


def put_end(end, puts):
    """An end that reads other operands."""
    word = end[0]
    own = put_operands(own_operands(end), puts)
    ways = [(block, put_operands(args, puts)) for block, args in ways_of(end)]
    if word == "fork":
        end = ("fork",) + own + end[2:]
    elif word == "give":
        end = ("give", own)
    elif word == "call":
        end = end[:2] + (own,) + end[3:]
    return with_ways(end, ways)


def results_laid(middle, end):
    """How many results an end lays into a block's first params, ahead of its args."""
    return len(middle[end[1]][1]) if end[0] == "call" else 0


def in_order(function):
    """The numbers of the blocks that are come to, each behind all that stand on every way to it."""
    blocks = function[2]
    seen = {0: True}
    left = [(0, list(targets_of(blocks[0][2])))]
    behind = []
    # A block is noted when all that it leads to is: read backwards, it stands ahead of them, rings apart.
    while left:
        block, targets = left[-1]
        if not targets:
            behind.append(block)
            left.pop()
        else:
            target = targets.pop()
            if target not in seen:
                seen[target] = True
                left.append((target, list(targets_of(blocks[target][2]))))
    return behind[::-1]


def with_reached(function, reached):
    """A function with these blocks alone, those that are come to, numbered anew in their order."""
    numbers = {block: at for at, block in enumerate(reached)}
    blocks = []
    for block in reached:
        params, rows, end = function[2][block]
        ways = [(numbers[target], args) for target, args in ways_of(end)]
        blocks.append((params, rows, with_ways(end, ways)))
    return function[:2] + (tuple(blocks),)


def laid_by(params, args, living):
    """What the begin of a block tells of the args just laid into its params: stands, and names that lead.

    Each name among the args, and each living one, is led by a name of the block that has its value there. A param that
    has a number, or what another name leads, is told by a stand.
    """
    leaders = {name: name for name in living}
    stands = []
    for param, operand in zip(params, args):
        if isinstance(operand, int):
            stands.append(((0, param), operand))
        elif operand in leaders:
            stands.append(((0, param), (0, leaders[operand])))
        else:
            leaders[operand] = param
    return stands, leaders


def made_by(makings):
    """An outcome and its paper, of what makes each function and then tells its matches."""
    functions = [making.function_made() for making in makings]
    paper = [making.matches_made(made) for making, made in zip(makings, functions)]
    return tuple(functions), tuple(paper)
