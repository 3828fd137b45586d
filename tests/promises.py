"""For tests: what points 35 to 42 tell of outcomes, asked in a second way, name by name and way by way."""

from middles import gives, leads, reads, second_come_to, second_given

from samepaper.terms import kind_of_term


def faces(middle):
    return [(word, "".join(name[0] for name in blocks[0][0]), results) for word, results, blocks in middle]


def all_given(function):
    return [name for params, rows, end in function[2] for name in [*params, *[n for row in rows for n in gives(row)]]]


def second_once(middle):
    return all(len(all_given(function)) == len(set(all_given(function))) for function in middle)


def first_touch(rows, end):
    """For each name of a block whether it is read ahead of being given there."""
    told = {}
    for thing in [*rows, end]:
        for name in reads(thing):
            told.setdefault(name, True)
        for name in gives(thing) if thing is not end else ():
            told.setdefault(name, False)
    return told


def second_lives(function):
    """For each block the set of names that live at its begin, asked name by name, back from where it is read."""
    blocks = function[2]
    touches = [first_touch(rows, end) for params, rows, end in blocks]
    ahead_of = [{b for b, block in enumerate(blocks) if at in leads(block[2])} for at in range(len(blocks))]
    told = [set() for block in blocks]
    for name in {name for touch in touches for name in touch}:
        ahead = [b for b, touch in enumerate(touches) if touch.get(name)]
        seen = set(ahead)
        while ahead:
            b = ahead.pop()
            if name not in blocks[b][0]:
                told[b].add(name)
                new = {p for p in ahead_of[b] if touches[p].get(name) is None} - seen
                seen |= new
                ahead += new
    return told


def many_operands(rows):
    return sum(len(row[2:]) if row[0] == "need" else len(row[2]) for row in rows if len(row) == 3)


def second_small(middle):
    for function in middle:
        blocks, lives = function[2], second_lives(function)
        if len(blocks) > 40 or any(len(rows) > 60 or many_operands(rows) > 320 for params, rows, end in blocks):
            return False
        if any(len(blocks[b][0]) + len(lives[b]) > 60 for b in second_come_to(function)):
            return False
    return True


def second_slight(function):
    few = len(function[2]) <= 12 and all(len(rows) <= 30 for params, rows, end in function[2])
    return few and len(set(all_given(function))) <= 60


def all_come_to(middle):
    return all(second_come_to(function) == tuple(range(len(function[2]))) for function in middle)


def laid_into(middle, function):
    """For each block and place of a param all that is laid into it by ends that are come to, None for a result."""
    told = {(b, k): [] for b, block in enumerate(function[2]) for k in range(len(block[0]))}
    for b in second_come_to(function):
        end = function[2][b][2]
        ways = {"go": [end[1:]], "fork": [end[2:4], end[4:]], "give": []}.get(end[0])
        if ways is None:
            ways = [(end[3], (None,) * len(middle[end[1]][1]) + end[4])]
        for target, args in ways:
            for k, operand in enumerate(args):
                told[target, k].append(operand)
    return told


def unfolded(middle):
    """Why a middle is not folded, or None."""
    for function in middle:
        for params, rows, end in function[2]:
            for row in rows:
                plain = len(row) == 3 and row[0] != "need" and all(isinstance(o, int) for o in row[2])
                if plain and row[0][0] == "n" and row[1] != "copy":
                    return row
                if row[0] == "need" and isinstance(row[2], int) and row[2] != 0:
                    return row
            if end[0] == "fork" and isinstance(end[1], int):
                return end
        for (b, k), things in laid_into(middle, function).items():
            name = function[2][b][0][k]
            if b != 0 and None not in things and len({thing for thing in things if thing != name}) < 2:
                return (b, name)
    return None


def second_read(middle, function):
    """The names that are read, as point 38 tells it of bare middles."""
    laid = laid_into(middle, function)
    read = set()
    while True:
        more = set()
        for params, rows, end in function[2]:
            for row in rows:
                if row[0] == "need" or gives(row) & read:
                    more |= reads(row)
            told = {"fork": end[1:2], "give": end[1:2], "call": end[2:3]}.get(end[0], ())
            told = told if end[0] == "fork" else [o for args in told for o in args]
            more |= {o for o in told if isinstance(o, str)}
        for (b, k), things in laid.items():
            if None in things or function[2][b][0][k] in read:
                more |= {thing for thing in things if isinstance(thing, str)}
        if more <= read:
            return read
        read |= more


def unbare(middle):
    """A name that keeps a middle from being bare, or None."""
    for function in middle:
        read = second_read(middle, function)
        for params, rows, end in function[2]:
            for row in rows:
                if gives(row) - read:
                    return row
        for (b, k), things in laid_into(middle, function).items():
            if b != 0 and None not in things and function[2][b][0][k] not in read:
                return (b, function[2][b][0][k])
    return None


def goes_ahead(function, block, other):
    """Whether each way from block 0 to the other comes through a block."""
    come, ahead = {0} - {block}, [0] if block else []
    while ahead:
        new = {t for t in leads(function[2][ahead.pop()][2]) if t != block} - come
        come |= new
        ahead += new
    return other not in come


def unshared(function):
    """Two rows alike of which one surely goes ahead of the other, or None."""
    rows = [(b, r, row) for b in second_come_to(function) for r, row in enumerate(function[2][b][1]) if gives(row)]
    for b, r, row in rows:
        for c, s, other in rows:
            if row[1:] == other[1:] and (b, r) != (c, s):
                if b == c and r < s or b != c and goes_ahead(function, b, c):
                    return (b, r), (c, s)
    return None


def calls_nobody(function):
    return all(end[0] != "call" for params, rows, end in function[2])


def calls_left(middle, outcome, number):
    """The calls in a function of the outcome of functions that call nobody in the handed middle."""
    return [end for params, rows, end in outcome[number][2] if end[0] == "call" and calls_nobody(middle[end[1]])]


def slight_together(middle, number):
    """Whether a function and those that its ends call and that call nobody are slight, added up."""
    ends = [end for params, rows, end in middle[number][2]]
    functions = [middle[number]] + [middle[end[1]] for end in ends if end[0] == "call" and calls_nobody(middle[end[1]])]
    rows = [rows for function in functions for params, rows, end in function[2]]
    names = sum(len(set(all_given(function))) for function in functions)
    return len(rows) <= 12 and names <= 60 and all(len(each) <= 30 for each in rows)


def comes_without(function, begin, head):
    """The blocks that are come to from one without going through the head."""
    come, ahead = {begin}, [begin]
    while ahead:
        new = {t for t in leads(function[2][ahead.pop()][2]) if t != head} - come
        come |= new
        ahead += new
    return come


def second_loops(function):
    """For each head of a loop the set of the loop's blocks, as point 41 tells it."""
    reached = second_come_to(function)
    loops = {}
    for h in reached:
        tails = {t for t in reached if h in leads(function[2][t][2]) and (t == h or goes_ahead(function, h, t))}
        if h != 0 and tails:
            loops[h] = {h} | {b for b in reached if b != h and comes_without(function, b, h) & tails}
    return loops


def term_at(function, given, row):
    """A row's term at a loop's head, given the names that are given for sure there in the handed function."""
    by = {r[0]: r for params, rows, end in function[2] for r in rows if gives(r)}

    def term(operand):
        if isinstance(operand, int):
            return operand
        return (0, operand) if operand in given else (by[operand][1], *map(term, by[operand][2]))
    return (row[1], *map(term, row[2]))


def unmoved(function, outcome):
    """A head and a row that point 41 does not let stay in the head's loop, or None; and how many it lets stay."""
    given, stayed = second_given(function), 0
    for head, loop in second_loops(outcome).items():
        within = {name for b in loop for name in all_given((0, 0, [outcome[2][b]]))}
        for row in [row for b in loop for row in outcome[2][b][1] if gives(row)]:
            if not reads(row) & within:
                # A head is a block of the handed function: no new one is any.
                if kind_of_term(term_at(outcome, given[head], row)) is not None:
                    return head, row
                stayed += 1
    return stayed


def second_boxed(middle, numbers, rows):
    """Whether a middle is boxed, asked thing by thing."""
    boxes = {f"n{k}" for k in range(numbers)} | {f"r{k}" for k in range(rows)}
    plain = lambda operand: isinstance(operand, int) or operand in boxes
    for word, results, blocks in middle:
        for params, lines, end in blocks:
            if boxes & set(params) or end[0] in ("go", "fork") and any(end[k] for k in ((2,) if end[0] == "go" else (3, 5))):
                return False
            if end[0] == "call" and end[4] != () or end[0] == "fork" and not plain(end[1]):
                return False
            for r, row in enumerate([*lines, end]):
                if reads(row) & boxes - {name for line in lines[:r] for name in gives(line)}:
                    return False
            for row in lines:
                if row[0] == "need" and not plain(row[2]):
                    return False
                if gives(row) and row[1] in ("copy", "keep") and row[0] not in boxes and row[2][0] not in boxes:
                    return False
                if gives(row) and row[1] not in ("copy", "keep") and not (row[0] in boxes and all(map(plain, row[2]))):
                    return False
    return True
