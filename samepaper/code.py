"""Which code is right."""

from samepaper.errors import NoCode
from samepaper.middle import MOST_FUNCTIONS, MOST_MADE, MOST_PARAMS, MOST_RESULTS
from samepaper.numbers import is_whole, kinds_of
from samepaper.reaching import Reaching, first_on_ring, steps_come_to
from samepaper.steps import is_boxed_operand, is_cell, is_place, kind_of_box, takes_tick
from samepaper.words import is_word

MOST_CELLS = 10000
MOST_STEPS = 60000


def is_tuple_of(thing, least, most):
    """Whether a thing is a tuple of so many things."""
    return isinstance(thing, tuple) and least <= len(thing) <= most


def are_kinds(thing, most):
    return isinstance(thing, str) and len(thing) <= most and all(kind in ("n", "r") for kind in thing)


def is_right_head(code, number):
    """Whether a function is right but for its steps, one by one."""
    function = code[number]
    if not is_tuple_of(function, 5, 5):
        return False
    word, takes, results, cells, steps = function
    if not isinstance(word, str) or not is_word(word) or word in [earlier[0] for earlier in code[:number]]:
        return False
    if not are_kinds(takes, MOST_PARAMS) or not are_kinds(results, MOST_RESULTS):
        return False
    return is_whole(cells) and len(takes) <= cells <= MOST_CELLS and is_tuple_of(steps, 1, MOST_STEPS)


def all_operands(things, kinds, cells):
    """Whether a thing is a tuple of boxes, numbers and cells of just these kinds."""
    if not is_tuple_of(things, len(kinds), len(kinds)):
        return False
    return all(is_boxed_operand(thing, kind) or is_cell(thing, kind, cells) for thing, kind in zip(things, kinds))


def is_right_operation(step, code, function):
    op, box, operands = step
    told, kinds = kinds_of(op)
    if kind_of_box(box) != told or not isinstance(operands, tuple):
        return False
    if kinds is None:
        kinds = "n" * min(len(operands), MOST_MADE)
    if len(operands) != len(kinds):
        return False
    return all(is_boxed_operand(operand, kind) for operand, kind in zip(operands, kinds))


def is_right_load(step, code, function):
    return kind_of_box(step[1]) is not None and is_place(step[2], function[3])


def is_right_store(step, code, function):
    return kind_of_box(step[2]) is not None and is_place(step[1], function[3])


def is_right_need(step, code, function):
    return isinstance(step[1], str) and is_word(step[1]) and is_boxed_operand(step[2], "n")


def is_right_tick(step, code, function):
    return True


def is_step_number(thing, function):
    return is_whole(thing) and 0 <= thing < len(function[4])


def is_right_jump(step, code, function):
    return is_step_number(step[1], function)


def is_right_branch(step, code, function):
    return is_boxed_operand(step[1], "n") and is_step_number(step[2], function)


def is_right_call(step, code, function):
    word, number, operands, laid = step
    if not is_whole(number) or not 0 <= number < len(code):
        return False
    takes, results = code[number][1:3]
    if not all_operands(operands, takes, function[3]) or not is_tuple_of(laid, len(results), len(results)):
        return False
    if not all(is_cell(thing, kind, function[3]) for thing, kind in zip(laid, results)):
        return False
    return len({place for kind, place in laid}) == len(laid)


def is_right_give(step, code, function):
    return all_operands(step[1], function[2], function[3])


# For each word how many things a step of it has, and what asks them.
STEPS = {
    "load": (3, is_right_load),
    "store": (3, is_right_store),
    "need": (3, is_right_need),
    "tick": (1, is_right_tick),
    "jump": (2, is_right_jump),
    "branch": (3, is_right_branch),
    "call": (4, is_right_call),
    "give": (2, is_right_give),
}


def is_right_step(step, code, function):
    """Whether any thing is a step of a function, by itself."""
    if not isinstance(step, tuple) or not step or not isinstance(step[0], str):
        return False
    many, asks = (3, is_right_operation) if kinds_of(step[0]) is not None else STEPS.get(step[0], (-1, None))
    return len(step) == many and asks(step, code, function)


def ask_steps(code, number):
    for at, step in enumerate(code[number][4]):
        if not is_right_step(step, code, code[number]):
            raise NoCode(number, at)


def ask_reads(code, number):
    """Asks what steps that can be come to read, and whether one goes on beyond the last one."""
    step = Reaching(code[number]).first_fault()
    if step is not None:
        raise NoCode(number, step)


def ask_rings(code, number):
    """Asks whether each ring of steps that can be come to takes a tick."""
    steps = code[number][4]
    still = [step for step in steps_come_to(steps) if not takes_tick(steps[step])]
    step = first_on_ring(steps, still)
    if step is not None:
        raise NoCode(number, step)


def right_code(code):
    """True for right code, else NoCode."""
    if not is_tuple_of(code, 1, MOST_FUNCTIONS):
        raise NoCode(-1, -1)
    numbers = list(range(len(code)))
    for number in numbers:
        if not is_right_head(code, number):
            raise NoCode(number, -1)
    for number in numbers:
        ask_steps(code, number)
    for number in numbers:
        ask_reads(code, number)
    for number in numbers:
        ask_rings(code, number)
    return True
