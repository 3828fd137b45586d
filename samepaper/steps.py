"""The steps of code: what they read, give, lay and go on to."""

from samepaper.numbers import is_number, is_whole, kinds_of

# Each box with a number of its own.
BOXES = {
    "n0": 0,
    "n1": 1,
    "n2": 2,
    "n3": 3,
    "n4": 4,
    "n5": 5,
    "n6": 6,
    "n7": 7,
    "r0": 8,
    "r1": 9,
    "r2": 10,
    "r3": 11,
}


def kind_of_box(thing):
    """The kind of a box, or None for any thing that is none."""
    return thing[0] if isinstance(thing, str) and thing in BOXES else None


def is_place(thing, cells):
    """Whether a thing is the place of one of so many cells."""
    return is_whole(thing) and 0 <= thing < cells


def is_cell(thing, kind, cells):
    """Whether a thing is a cell of this kind, of a frame that has so many."""
    if not isinstance(thing, tuple) or len(thing) != 2:
        return False
    return thing[0] == kind and is_place(thing[1], cells)


def is_boxed_operand(thing, kind):
    """Whether a thing is a box of this kind or, where a number is due, a number."""
    return kind_of_box(thing) == kind or kind == "n" and is_number(thing)


def operands_read(step):
    """The operands of a step: boxes, numbers and cells."""
    word = step[0]
    if word == "load":
        return ((kind_of_box(step[1]), step[2]),)
    if word in ("store", "need"):
        return step[2:]
    if word == "branch":
        return step[1:2]
    if word == "call":
        return step[2]
    if word == "give":
        return step[1]
    return () if kinds_of(word) is None else step[2]


def box_given(step):
    """The box that a step gives, or None."""
    return step[1] if step[0] == "load" or kinds_of(step[0]) is not None else None


def cells_laid(step):
    """The cells into which a step lays something."""
    if step[0] == "store":
        return ((kind_of_box(step[2]), step[1]),)
    return step[3] if step[0] == "call" else ()


def steps_behind(step, number):
    """The numbers of the steps to which the step of this number goes on."""
    word = step[0]
    if word == "give":
        return ()
    if word == "jump":
        return (step[1],)
    return (step[2], number + 1) if word == "branch" else (number + 1,)


def takes_tick(step):
    return step[0] in ("tick", "call")
