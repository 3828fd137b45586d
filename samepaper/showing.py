"""Trees shown as the texts that they were read from."""

from samepaper.trees import expr_words


def shown_expr(e):
    """An expression's words, blanks between."""
    return " ".join(expr_words(e))


def pair_words(pairs):
    words = []
    for name, kind in pairs:
        words.extend([name, kind])
    return words


def record_line(record):
    name, fields = record
    return " ".join(["record", name] + pair_words(fields))


def statement_lines(statement):
    word = statement[0]
    if word in ("if", "while"):
        return turn_lines(statement)
    words = [word]
    for part in statement[1:]:
        words.append(part_text(word, part, len(words)))
    return [" ".join(words)]


def part_text(word, part, place):
    """A name, a path or an expression, as it stands at this place of a statement."""
    if word == "let" and place == 1:
        return part
    if word in ("set", "put") and place == 1:
        return ".".join(part)
    return shown_expr(part)


def turn_lines(statement):
    lines = [f"{statement[0]} {shown_expr(statement[1])}"]
    lines.extend(body_lines(statement[2]))
    if statement[0] == "if" and statement[3]:
        lines.append("else")
        lines.extend(body_lines(statement[3]))
    lines.append("end")
    return lines


def body_lines(body):
    lines = []
    for statement in body:
        lines.extend(statement_lines(statement))
    return lines


def function_lines(function):
    """A function's lines, from its own to its end."""
    name, kind, parameters, body = function
    head = " ".join(["function", name, kind] + pair_words(parameters))
    return [head] + body_lines(body) + ["end"]


def shown(tree):
    """The text of a tree."""
    records, functions = tree
    lines = [record_line(record) for record in records]
    for function in functions:
        lines.extend(function_lines(function))
    return "\n".join(lines)
