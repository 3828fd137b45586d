"""Numbers, rows, and the operations on them."""

LOWEST = -32768
HIGHEST = 32767
SPAN = 65536
LONGEST = 40

KINDS = {
    "add": ("n", "nn"),
    "sub": ("n", "nn"),
    "mul": ("n", "nn"),
    "div": ("n", "nn"),
    "rest": ("n", "nn"),
    "less": ("n", "nn"),
    "same": ("n", "nn"),
    "pick": ("n", "nnn"),
    "copy": ("n", "n"),
    "at": ("n", "rn"),
    "size": ("n", "r"),
    "put": ("r", "rnn"),
    "many": ("r", "nn"),
    "make": ("r", None),
    "keep": ("r", "r"),
}


def is_whole(thing):
    """Whether a thing is a whole number: truths are none."""
    return isinstance(thing, int) and not isinstance(thing, bool)


def is_number(thing):
    """Whether a thing is a number: a whole one within the bounds."""
    return is_whole(thing) and LOWEST <= thing <= HIGHEST


def taken_in(whole):
    """The number that differs from a whole number by a multiple of 65536."""
    return (whole - LOWEST) % SPAN + LOWEST


def has_place(row, place):
    """Whether a row has a number at this place."""
    return 0 <= place < len(row)


def kinds_of(op):
    """The kind that an operation tells and its operands' kinds, or None for another text."""
    return KINDS.get(op)


def sum_of(values):
    return taken_in(values[0] + values[1])


def difference_of(values):
    return taken_in(values[0] - values[1])


def product_of(values):
    return taken_in(values[0] * values[1])


def quotient_of(values):
    if values[1] == 0:
        return 0
    return taken_in(values[0] // values[1])


def rest_of(values):
    return taken_in(values[0] - values[1] * quotient_of(values))


def less_of(values):
    return 1 if values[0] < values[1] else 0


def same_of(values):
    return 1 if values[0] == values[1] else 0


def picked_of(values):
    return values[1] if values[0] != 0 else values[2]


def itself_of(values):
    return values[0]


def number_at(values):
    row, place = values
    return row[place] if has_place(row, place) else 0


def size_of(values):
    return len(values[0])


def put_of(values):
    row, place, number = values
    if not has_place(row, place):
        return row
    return row[:place] + (number,) + row[place + 1:]


def length_made(many):
    """How many numbers a row has that is made of so many."""
    return max(0, min(many, LONGEST))


def many_of(values):
    return (values[1],) * length_made(values[0])


def made_of(values):
    return tuple(values)


ACTIONS = {
    "add": sum_of,
    "sub": difference_of,
    "mul": product_of,
    "div": quotient_of,
    "rest": rest_of,
    "less": less_of,
    "same": same_of,
    "pick": picked_of,
    "copy": itself_of,
    "at": number_at,
    "size": size_of,
    "put": put_of,
    "many": many_of,
    "make": made_of,
    "keep": itself_of,
}


def done(op, values):
    """The value that an operation tells of a tuple of values of its kinds."""
    action = ACTIONS[op]
    return action(values)
