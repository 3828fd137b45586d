"""What a tree's parts have within them."""


def found(rows, name):
    """The record, function, field or parameter of this name, or None."""
    for row in rows:
        if row[0] == name:
            return row
    return None


def within(e):
    """The expressions that an expression has within, from the left."""
    if isinstance(e, int) or e[0] == "of":
        return ()
    if e[0] in ("call", "new"):
        return e[2:]
    return e[1:]


def head_words(e):
    """An expression's words ahead of those that it has within."""
    if isinstance(e, int):
        return [str(e)]
    if e[0] == "of":
        return [".".join(e[1])]
    if e[0] in ("call", "new"):
        return [e[0], e[1], str(len(e) - 2)]
    if e[0] == "make":
        return ["make", str(len(e) - 1)]
    return [e[0]]


def expr_words(e):
    """All words of an expression."""
    words = head_words(e)
    for inner in within(e):
        words.extend(expr_words(inner))
    return words
