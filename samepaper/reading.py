"""Source texts read into trees."""

from samepaper.errors import NoText
from samepaper.numbers import kinds_of
from samepaper.words import is_kind, is_name, is_path, number_of

MOST_RECORDS = 4
MOST_FIELDS = 4
MOST_FUNCTIONS = 6
MOST_PARAMETERS = 4
MOST_STATEMENTS = 16
MOST_LETS = 5
MOST_TURNS = 8
MOST_EXPR_WORDS = 12

TURNS = ("if", "while", "call", "and", "or")
TRUTHS = {"and": 2, "or": 2, "not": 1}
FIGURES = ("0", "1", "2", "3", "4", "5", "6", "7", "8")


class Line:
    """One line's words, taken from the left; what is not as told is refused with its number."""

    def __init__(self, words, line):
        self.words = words
        self.line = line
        self.taken = 0

    def left(self):
        return len(self.words) - self.taken

    def take(self):
        if self.left() == 0:
            raise NoText(self.line)
        self.taken += 1
        return self.words[self.taken - 1]

    def take_as(self, fits):
        word = self.take()
        if not fits(word):
            raise NoText(self.line)
        return word

    def finish(self):
        if self.left() > 0:
            raise NoText(self.line)


class Source:
    """The lines of a text, taken from the top."""

    def __init__(self, text):
        self.lines = [row.split(" ") for row in text.split("\n")]
        self.at = 0

    def is_done(self):
        return self.at == len(self.lines)

    def first_word(self):
        if self.is_done():
            raise NoText(self.at)
        return self.lines[self.at][0]

    def take_line(self):
        line = Line(self.lines[self.at], self.at)
        self.at += 1
        return line

    def take_end(self):
        if self.first_word() != "end":
            raise NoText(self.at)
        line = self.take_line()
        line.take()
        line.finish()


class Counts:
    """How much one function has so far of what the document bounds."""

    def __init__(self):
        self.statements = 0
        self.lets = 0
        self.turns = 0

    def count_line(self, words):
        self.statements += 1
        self.lets += 1 if words[0] == "let" else 0
        # No NAME is one of these words, so each of them in a line is what it says.
        self.turns += len([word for word in words if word in TURNS])

    def are_kept(self):
        return self.statements <= MOST_STATEMENTS and self.lets <= MOST_LETS and self.turns <= MOST_TURNS


def many_in(line):
    return int(line.take_as(lambda word: word in FIGURES))


def operand_count(line, word):
    if word in TRUTHS:
        return TRUTHS[word]
    kinds = kinds_of(word)
    if kinds is None or word in ("copy", "keep"):
        raise NoText(line.line)
    return len(kinds[1])


def exprs_in(line, many):
    return tuple([expr_in(line) for k in range(many)])


def expr_in(line):
    word = line.take()
    number = number_of(word)
    if number is not None:
        return number
    if is_path(word):
        return ("of", tuple(word.split(".")))
    if word in ("call", "new"):
        name = line.take_as(is_name)
        return (word, name) + exprs_in(line, many_in(line))
    if word == "make":
        return (word,) + exprs_in(line, many_in(line))
    return (word,) + exprs_in(line, operand_count(line, word))


def last_exprs(line, many):
    """The EXPRs with which a line ends."""
    # Asked first, so that no line makes expr_in call itself deeper than this.
    if line.left() > MOST_EXPR_WORDS:
        raise NoText(line.line)
    exprs = exprs_in(line, many)
    line.finish()
    return exprs


def path_in(line):
    return tuple(line.take_as(is_path).split("."))


def read_let(source, counts, line):
    name = line.take_as(is_name)
    return ("let", name) + last_exprs(line, 1)


def read_set(source, counts, line):
    path = path_in(line)
    return ("set", path) + last_exprs(line, 1)


def read_put(source, counts, line):
    path = path_in(line)
    return ("put", path) + last_exprs(line, 2)


def read_give(source, counts, line):
    return ("give",) + last_exprs(line, 1)


def read_if(source, counts, line):
    exprs = last_exprs(line, 1)
    first = read_body(source, counts)
    second = ()
    if source.first_word() == "else":
        other = source.take_line()
        other.take()
        other.finish()
        second = read_body(source, counts)
    source.take_end()
    return ("if",) + exprs + (first, second)


def read_while(source, counts, line):
    exprs = last_exprs(line, 1)
    body = read_body(source, counts)
    source.take_end()
    return ("while",) + exprs + (body,)


STATEMENTS = {
    "let": read_let,
    "set": read_set,
    "put": read_put,
    "give": read_give,
    "if": read_if,
    "while": read_while,
}


def read_statement(source, counts):
    line = source.take_line()
    word = line.take()
    counts.count_line(line.words)
    if word not in STATEMENTS or not counts.are_kept():
        raise NoText(line.line)
    action = STATEMENTS[word]
    return action(source, counts, line)


def read_body(source, counts):
    statements = []
    while source.first_word() not in ("else", "end"):
        statements.append(read_statement(source, counts))
    if not statements:
        raise NoText(source.at)
    return tuple(statements)


def pairs_in(line, least, most):
    """The pairs of NAME and KIND with which a line ends."""
    pairs = []
    while line.left() > 0:
        name = line.take_as(is_name)
        pairs.append((name, line.take_as(is_kind)))
    if not least <= len(pairs) <= most:
        raise NoText(line.line)
    return tuple(pairs)


def read_record(source):
    line = source.take_line()
    line.take()
    name = line.take_as(is_name)
    return (name, pairs_in(line, 1, MOST_FIELDS))


def read_function(source):
    line = source.take_line()
    line.take()
    name = line.take_as(is_name)
    kind = line.take_as(is_kind)
    parameters = pairs_in(line, 0, MOST_PARAMETERS)
    body = read_body(source, Counts())
    source.take_end()
    return (name, kind, parameters, body)


def read_records(source):
    records = []
    while source.first_word() == "record":
        if len(records) == MOST_RECORDS:
            raise NoText(source.at)
        records.append(read_record(source))
    return tuple(records)


def read_functions(source):
    functions = []
    # Behind the records there is a line: that is where they were seen to end.
    while not source.is_done():
        if source.first_word() != "function" or len(functions) == MOST_FUNCTIONS:
            raise NoText(source.at)
        functions.append(read_function(source))
    return tuple(functions)


def read(text):
    """The tree of a text, or NoText."""
    source = Source(text)
    records = read_records(source)
    return (records, read_functions(source))
