"""Which functions and middles are small, and which functions are slight."""

from samepaper.given import come_to, names_of
from samepaper.lives import lives_of
from samepaper.shapes import row_operands

SMALL_BLOCKS = 40
SMALL_ROWS = 60
SMALL_OPERANDS = 320
SMALL_NAMES = 60
SLIGHT_BLOCKS = 12
SLIGHT_ROWS = 30
SLIGHT_NAMES = 60


def are_small_rows(rows):
    return len(rows) <= SMALL_ROWS and sum([len(row_operands(row)) for row in rows]) <= SMALL_OPERANDS


def is_small_function(function):
    blocks = function[2]
    if len(blocks) > SMALL_BLOCKS or not all(are_small_rows(rows) for params, rows, end in blocks):
        return False
    lives = lives_of(function)
    return all(len(blocks[block][0]) + len(lives[block]) <= SMALL_NAMES for block in come_to(function))


def is_small(middle):
    """Whether a right middle is small."""
    return all(is_small_function(function) for function in middle)


def is_slight(function):
    """Whether a function is slight."""
    blocks = function[2]
    if len(blocks) > SLIGHT_BLOCKS or any(len(rows) > SLIGHT_ROWS for params, rows, end in blocks):
        return False
    return len({name for block in blocks for name in names_of(block)}) <= SLIGHT_NAMES
