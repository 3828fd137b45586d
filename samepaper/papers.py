"""Papers: what they have to be like for two middles, and the names of terms."""

from samepaper.errors import NoPaper
from samepaper.given import given_at
from samepaper.middle import kind_of, kinds_at
from samepaper.numbers import is_whole
from samepaper.terms import is_name_of, is_named, kind_of_term, named_in

MOST_FRAMES = 8


def names_in(term):
    """The sorted list of a term's (depth, name), each once."""
    return sorted(set(named_in(term)))


def put_in(term, terms):
    """A term with terms put for its (depth, name)."""
    if isinstance(term, int):
        return term
    if is_name_of(term):
        return terms[term]
    return (term[0],) + tuple([put_in(operand, terms) for operand in term[1:]])


def is_tuple_of(thing, many):
    return isinstance(thing, tuple) and len(thing) == many


def is_of_depths(name, depths):
    """Whether a (depth, name) is one of these depths, each a dict of its names."""
    return name[0] < len(depths) and name[1] in depths[name[0]]


def has_kind(term, kind, depths):
    """Whether a thing is a term of this kind with names of their depths."""
    return kind_of_term(term) == kind and all(is_of_depths(name, depths) for name in named_in(term))


def are_stands(stands, depths):
    for stand in stands:
        if not is_tuple_of(stand, 2) or not is_named(stand[0]) or not is_of_depths(stand[0], depths):
            return False
    told = {name: at for at, (name, term) in enumerate(stands)}
    if len(told) < len(stands):
        return False
    for at, (name, term) in enumerate(stands):
        if not has_kind(term, kind_of(name[1]), depths):
            return False
        if any(told.get(inner, -1) >= at for inner in named_in(term)):
            return False
    return True


def are_holds(holds, depths):
    for hold in holds:
        if not is_tuple_of(hold, 2) or not isinstance(hold[0], str) or kind_of(hold[0]) is None:
            return False
        if not has_kind(hold[1], kind_of(hold[0]), depths):
            return False
    return len({hold[0] for hold in holds}) == len(holds)


def are_knows(knows, depths):
    for know in knows:
        if not is_tuple_of(know, 2) or not isinstance(know[1], bool) or not has_kind(know[0], "n", depths):
            return False
    return True


class Shape:
    """What matches have to be like whose places are in this middle."""

    def __init__(self, one):
        self.one = one
        self.by_function = {}
        self.by_frame = {}

    def given_in(self, number):
        """For each block of a function the names given for sure, None where it is not come to."""
        if number not in self.by_function:
            self.by_function[number] = given_at(self.one[number])
        return self.by_function[number]

    def is_frame(self, frame):
        """Whether a thing is a function and a block of it that is come to."""
        if not is_tuple_of(frame, 2) or not is_whole(frame[0]) or not is_whole(frame[1]):
            return False
        number, block = frame
        if not 0 <= number < len(self.one) or not 0 <= block < len(self.one[number][2]):
            return False
        return self.given_in(number)[block] is not None

    def may_wait(self, frame, callee):
        """Whether some call of this function leads to the block of a frame."""
        ends = [end for params, rows, end in self.one[frame[0]][2]]
        return any(end[0] == "call" and end[1] == callee and end[3] == frame[1] for end in ends)

    def is_place(self, number, place):
        """Whether a tuple is a place for a block of the other's function of this number."""
        if not 1 <= len(place) <= MOST_FRAMES or not all(self.is_frame(frame) for frame in place):
            return False
        waits = [self.may_wait(frame, place[depth + 1][0]) for depth, frame in enumerate(place[:-1])]
        return place[0][0] == number and all(waits)

    def frame_names(self, frame, results):
        """The names of a frame, a dict, that waits for so many results."""
        key = (frame, results)
        if key not in self.by_frame:
            number, block = frame
            awaited = self.one[number][2][block][0][:results]
            names = self.given_in(number)[block]
            self.by_frame[key] = {name: True for name in names if name not in awaited}
        return self.by_frame[key]

    def depths_of(self, place):
        """For each depth of a place the names there."""
        results = [len(self.one[frame[0]][1]) for frame in place[1:]] + [0]
        return [self.frame_names(frame, many) for frame, many in zip(place, results)]

    def is_match(self, number, match):
        """Whether a thing is a match for a block of the other's function of this number."""
        if not is_tuple_of(match, 4) or not all(isinstance(part, tuple) for part in match):
            return False
        place, stands, holds, knows = match
        if not self.is_place(number, place):
            return False
        depths = self.depths_of(place)
        return are_stands(stands, depths) and are_holds(holds, depths) and are_knows(knows, depths)


def face_of(function):
    """A function's word, the kinds of its parameters, and its results."""
    return (function[0], kinds_at(function, 0), function[1])


def ask_faces(one, other):
    for number in range(max(len(one), len(other))):
        in_both = number < len(one) and number < len(other)
        if not in_both or face_of(one[number]) != face_of(other[number]):
            raise NoPaper(number, -1, -1, "face")


def shape_asked(one, other, paper):
    """True for a paper of the right shape for two middles of the same faces, else NoPaper."""
    ask_faces(one, other)
    if not is_tuple_of(paper, len(other)):
        raise NoPaper(-1, -1, -1, "shape")
    shape = Shape(one)
    for number, matches in enumerate(paper):
        if not is_tuple_of(matches, len(other[number][2])):
            raise NoPaper(number, -1, -1, "shape")
        for block, match in enumerate(matches):
            if match is not None and not shape.is_match(number, match):
                raise NoPaper(number, block, -1, "shape")
    return True
