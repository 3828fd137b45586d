"""Middles: names, and which middles are right."""

from samepaper.errors import NoMiddle
from samepaper.given import Given, come_to
from samepaper.numbers import is_number, kinds_of
from samepaper.shapes import is_need, is_tick, targets_of
from samepaper.words import is_figures, is_word

MOST_FUNCTIONS = 6
MOST_RESULTS = 4
MOST_BLOCKS = 600
MOST_PARAMS = 64
MOST_ROWS = 1200
MOST_MADE = 8


def kind_of(name):
    """The kind of a name, or None for a text that is none."""
    if name[:1] in ("n", "r") and is_figures(name[1:]):
        return name[0]
    return None


def fits(operand, kind):
    """Whether a text or whole number is an operand of this kind."""
    if isinstance(operand, str):
        return kind_of(operand) == kind
    return kind == "n" and is_number(operand)


def all_fit(operands, kinds):
    """Whether operands are just as many as kinds, and of these."""
    return len(operands) == len(kinds) and all(fits(operand, kind) for operand, kind in zip(operands, kinds))


def is_right_head(middle, number):
    """Whether a function is right but for its blocks."""
    word, results, blocks = middle[number]
    if number >= MOST_FUNCTIONS or not is_word(word) or not blocks:
        return False
    if word in [function[0] for function in middle[:number]]:
        return False
    return len(results) <= MOST_RESULTS and all(kind in ("n", "r") for kind in results)


def are_right_params(params):
    if len(params) > MOST_PARAMS or len(set(params)) < len(params):
        return False
    return all(kind_of(name) is not None for name in params)


def is_right_row(row):
    if is_tick(row):
        return row == ("tick",)
    if is_need(row):
        return is_word(row[1]) and fits(row[2], "n")
    name, op, operands = row
    kinds = kinds_of(op)
    if kinds is None or kind_of(name) != kinds[0]:
        return False
    if op == "make":
        return len(operands) <= MOST_MADE and all(fits(operand, "n") for operand in operands)
    return all_fit(operands, kinds[1])


def kinds_at(function, block):
    """The kinds of a block's params as a text, or None where there is no such block."""
    blocks = function[2]
    if not 0 <= block < len(blocks):
        return None
    return "".join([name[0] for name in blocks[block][0]])


def is_right_way(function, block, args, results):
    """Whether an end may lead to a block with these kinds of results, then args, laid into its params."""
    kinds = kinds_at(function, block)
    if block < 1 or kinds is None or not kinds.startswith(results):
        return False
    return all_fit(args, kinds[len(results):])


def is_right_call(middle, function, end):
    callee, args, block, more = end[1:]
    if not 0 <= callee < len(middle):
        return False
    called = middle[callee]
    return all_fit(args, kinds_at(called, 0)) and is_right_way(function, block, more, called[1])


def is_right_end(middle, function, end):
    word = end[0]
    if word == "go":
        return is_right_way(function, end[1], end[2], "")
    if word == "fork":
        both = is_right_way(function, end[2], end[3], "") and is_right_way(function, end[4], end[5], "")
        return both and fits(end[1], "n")
    if word == "give":
        return all_fit(end[1], function[1])
    return word == "call" and is_right_call(middle, function, end)


def ask_heads(middle):
    """Asks functions and the params of their blocks."""
    for number, function in enumerate(middle):
        if not is_right_head(middle, number):
            raise NoMiddle(number, -1, -1)
        for block, (params, rows, end) in enumerate(function[2]):
            if block >= MOST_BLOCKS or not are_right_params(params):
                raise NoMiddle(number, block, -1)


def ask_block(middle, number, block):
    """Asks a block's rows and its end, by themselves."""
    function = middle[number]
    params, rows, end = function[2][block]
    for at, row in enumerate(rows):
        if at >= MOST_ROWS or not is_right_row(row):
            raise NoMiddle(number, block, at)
    if not is_right_end(middle, function, end):
        raise NoMiddle(number, block, len(rows))


def ask_given(middle, number):
    """Asks whether all that is read in blocks that are come to is given for sure."""
    given = Given(middle[number])
    for block in given.reached:
        lack = given.first_lack(block)
        if lack is not None:
            raise NoMiddle(number, block, lack)


def is_still(block):
    """Whether a block takes no tick: neither by a row nor by a call."""
    params, rows, end = block
    return end[0] != "call" and not any(is_tick(row) for row in rows)


def comes_back(blocks, still, begin):
    """Whether some way from a still block leads back to it through still ones alone."""
    seen = {}
    ahead = [begin]
    while ahead:
        block = ahead.pop()
        for target in targets_of(blocks[block][2]):
            if target == begin:
                return True
            if target in still and target not in seen:
                seen[target] = True
                ahead.append(target)
    return False


def ask_rings(middle, number):
    """Asks whether each ring of blocks that are come to takes a tick."""
    blocks = middle[number][2]
    still = {block: True for block in come_to(middle[number]) if is_still(blocks[block])}
    for block in still:
        if comes_back(blocks, still, block):
            raise NoMiddle(number, block, -1)


def right_middle(middle):
    """True for a right middle, else NoMiddle."""
    if not middle:
        raise NoMiddle(0, -1, -1)
    ask_heads(middle)
    for number, function in enumerate(middle):
        for block in range(len(function[2])):
            ask_block(middle, number, block)
    for number in range(len(middle)):
        ask_given(middle, number)
    for number in range(len(middle)):
        ask_rings(middle, number)
    return True
