"""What the rows and ends of a middle read, give and lead to."""


def is_tick(row):
    return len(row) == 1


def is_need(row):
    return row[0] == "need"


def name_given(row):
    """The name that a row gives, or None."""
    return None if is_tick(row) or is_need(row) else row[0]


def copy_of(name):
    """The operation that tells what a name has."""
    return "copy" if name[0] == "n" else "keep"


def row_operands(row):
    """The operands of a row, names and numbers."""
    if is_tick(row):
        return ()
    return (row[2],) if is_need(row) else row[2]


def end_operands(end):
    """The operands of an end, names and numbers."""
    word = end[0]
    if word == "go":
        return end[2]
    if word == "fork":
        return (end[1],) + end[3] + end[5]
    if word == "give":
        return end[1]
    return end[2] + end[4]


def targets_of(end):
    """The numbers of the blocks to which an end leads in its own function."""
    word = end[0]
    if word == "go":
        return (end[1],)
    if word == "fork":
        return (end[2], end[4])
    if word == "call":
        return (end[3],)
    return ()
