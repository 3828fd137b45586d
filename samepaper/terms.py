"""Terms: numbers, names at depths, and operations of terms."""

from samepaper.forms import Forms
from samepaper.middle import MOST_MADE, kind_of
from samepaper.numbers import done, is_number, is_whole, kinds_of

MOST_DEEP = 12
MOST_TERMS = 60


def is_named(thing):
    """Whether a thing is a tuple (depth, name)."""
    if not isinstance(thing, tuple) or len(thing) != 2:
        return False
    depth, name = thing
    return is_whole(depth) and depth >= 0 and isinstance(name, str) and kind_of(name) is not None


def is_done(thing):
    """Whether a thing is a tuple that begins with an operation's word."""
    if not isinstance(thing, tuple) or not thing:
        return False
    return isinstance(thing[0], str) and kinds_of(thing[0]) is not None


def is_bounded(thing):
    """Whether a thing has no more terms, in all and within one another, than a term may have."""
    ahead = [(thing, 1)]
    many = 0
    while ahead:
        inner, deep = ahead.pop()
        many += 1
        # Asked term by term: a thing that is no term may have very many of them.
        if many + len(ahead) > MOST_TERMS or deep > MOST_DEEP:
            return False
        if is_done(inner):
            ahead.extend([(operand, deep + 1) for operand in inner[1:]])
    return True


def kind_within(thing):
    """The kind of a thing that is bounded, or None where it is no term."""
    if is_number(thing):
        return "n"
    if is_named(thing):
        return kind_of(thing[1])
    if not is_done(thing):
        return None
    told, kinds = kinds_of(thing[0])
    operands = [kind_within(operand) for operand in thing[1:]]
    if kinds is None:
        kinds = "n" * min(len(operands), MOST_MADE)
    return told if operands == list(kinds) else None


def kind_of_term(term):
    """The kind of a term, or None for a thing that is none."""
    return kind_within(term) if is_bounded(term) else None


def is_name_of(term):
    """Whether a thing that is a term is a (depth, name)."""
    return isinstance(term, tuple) and isinstance(term[0], int)


def operands_of(term):
    """The terms of which a term is an operation."""
    return () if isinstance(term, int) or is_name_of(term) else term[1:]


def named_in(term):
    """All the (depth, name) of a term, from the left, each as often as it stands there."""
    if is_name_of(term):
        return [term]
    names = []
    for operand in operands_of(term):
        names.extend(named_in(operand))
    return names


def form_of(forms, term, names):
    """The form of a term, names a dict from (depth, name) to a form; None where one lacks."""
    if isinstance(term, int):
        return forms.plain(term)
    if is_name_of(term):
        return names.get(term)
    operands = tuple([form_of(forms, operand, names) for operand in term[1:]])
    return None if None in operands else forms.made(term[0], operands)


def value_of(term, values):
    """The value of a term, values a dict from (depth, name) to a value."""
    if isinstance(term, int):
        return term
    if is_name_of(term):
        return values[term]
    return done(term[0], tuple([value_of(operand, values) for operand in term[1:]]))


def alike(one, other):
    """Whether the forms of two terms are equal where each (depth, name) is a thing of its own."""
    forms = Forms()
    names = {name: forms.thing(kind_of(name[1]), name) for name in named_in(one) + named_in(other)}
    return form_of(forms, one, names) == form_of(forms, other, names)
