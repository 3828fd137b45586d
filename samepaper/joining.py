"""A middle's own paper, and papers laid end to end."""

from samepaper.forms import Forms
from samepaper.given import given_at
from samepaper.middle import kind_of
from samepaper.papers import Shape, put_in
from samepaper.terms import form_of, is_name_of, kind_of_term, named_in


def own_match(number, block, names):
    """A block's match with itself, None where it is not come to and has no names."""
    return None if names is None else (((number, block),), (), tuple([(name, (0, name)) for name in names]), ())


def own_paper(middle):
    """A paper that is let by for a middle and itself."""
    given = [given_at(function) for function in middle]
    return tuple([tuple([own_match(number, block, names) for block, names in enumerate(each)])
                  for number, each in enumerate(given)])


def in_order_told(stands):
    """Stands in an order in which none reads a name that it or a later one tells; None where there is no such one."""
    told = {name: True for name, term in stands}
    ordered = []
    left = stands
    while left:
        ready = [stand for stand in left if not any(name in told for name in named_in(stand[1]))]
        if not ready:
            return None
        for name, term in ready:
            del told[name]
        ordered.extend(ready)
        left = [stand for stand in left if stand[0] in told]
    return ordered


class Told:
    """The stands of one place, in order, and the forms of terms there."""

    def __init__(self, stands):
        self.begin_with(stands)

    def begin_with(self, stands):
        self.stands = []
        self.terms = {}
        self.forms = Forms()
        self.names = {}
        for name, term in stands:
            self.add_stand(name, term)

    def add_stand(self, name, term):
        """Tells a stand of a name of which no form was asked yet."""
        self.names[name] = self.form_of_term(term)
        self.terms[name] = term
        self.stands.append((name, term))

    def form_of_term(self, term):
        for name in named_in(term):
            if name not in self.names:
                self.names[name] = self.forms.thing(kind_of(name[1]), name)
        return form_of(self.forms, term, self.names)

    def root(self, term):
        """The name for which a name stands at last, or the term itself."""
        while is_name_of(term) and is_name_of(self.terms.get(term)):
            term = self.terms[term]
        return term

    def makes_same(self, one, other):
        """Tells a stand by which two terms have one form, if need be; False where there is none."""
        if is_name_of(one) and one not in self.names and one not in named_in(other):
            self.add_stand(one, other)
            return True
        if self.form_of_term(one) == self.form_of_term(other):
            return True
        for name, term in ((self.root(one), other), (self.root(other), one)):
            if is_name_of(name) and name not in self.terms:
                stands = in_order_told(self.stands + [(name, term)])
                if stands is not None:
                    self.begin_with(stands)
                    return True
        return False


def put_of(term, terms):
    """A term with terms put for its names; None where one lacks, or what comes of it is no term."""
    if not all(name in terms for name in named_in(term)):
        return None
    put = put_in(term, terms)
    return None if kind_of_term(put) is None else put


def joined_stands(stands, later, terms):
    """The stands of an earlier match and those of a later one put into its place; None where they can't be told so.

    The terms of the middle's names take in those that the later match tells of names that the earlier one doesn't hold:
    there the middle does not read these.
    """
    told = Told(stands)
    for name, term in later:
        put = put_of(term, terms)
        if name in terms:
            if put is None or not told.makes_same(terms[name], put):
                return None
        elif put is not None:
            terms[name] = put
    return tuple(told.stands)


def joined_match(earlier, later):
    """A match with the place of the earlier one, for what the later one matches with the block between.

    None stands in it, and makes it none, for what can't be told there.
    """
    place, stands, holds, knows = earlier
    terms = {(0, name): term for name, term in holds}
    stands = joined_stands(stands, later[1], terms)
    held = [(name, put_of(term, terms)) for name, term in later[2]]
    known = [(put_of(term, terms), truth) for term, truth in later[3]]
    return (place, stands, tuple(held), knows + tuple(known))


def joined(one, paper, later):
    """A paper for the one and the other, of one for it and a middle and one for that middle and the other; or None."""
    shape = Shape(one)
    told = []
    for number, matches in enumerate(later):
        row = []
        for match in matches:
            if match is not None and len(match[0]) > 1:
                return None
            earlier = None if match is None else paper[number][match[0][0][1]]
            row.append(None if earlier is None else joined_match(earlier, match))
            if earlier is not None and not shape.is_match(number, row[-1]):
                return None
        told.append(tuple(row))
    return tuple(told)
